/- x -/
import Derived.Test.YtbfcbicbeagjkaaGreatDoorOrdG
import Derived.Test.YtbfcbicbeagjkaaGreatDoorMem
namespace Go.Proofs.YtbfcbicbeagjkaaGreatDoor
open Go.RowKit
def updL (L : Nat → Bool) (i : Nat) : Nat → Bool := fun j => if j = i then true else L j
def updV (vals : Nat → Value) (i : Nat) (v : Value) : Nat → Value := fun j => if j = i then v else vals j
theorem updL_self (L : Nat → Bool) (i : Nat) : updL L i i = true := by simp [updL]
theorem updL_ne {L : Nat → Bool} {i j : Nat} (h : j ≠ i) : updL L i j = L j := by simp [updL, h]
theorem updV_self (vals : Nat → Value) (i : Nat) (v : Value) : updV vals i v i = v := by simp [updV]
theorem updV_ne {vals : Nat → Value} {i j : Nat} {v : Value} (h : j ≠ i) : updV vals i v j = vals j := by simp [updV, h]
def dep1 (ops : Array Oper) (j i : Nat) : Bool := match ops[j]? with
 | some o => o.after.any fun e => Region.binds .any e && e.on == i
 | none => false
def descB (ops : Array Oper) : Nat → Nat → Nat → Bool
 | 0, _, _ => false
 | n + 1, i, j => dep1 ops j i || (List.range ops.size).any fun k => dep1 ops j k && descB ops n i k
def ClosedL (ops : Array Oper) (L : Nat → Bool) : Prop := ∀ j k, L j = true → dep1 ops j k = true → L k = true
theorem desc_no {ops : Array Oper} {L : Nat → Bool} (hc : ClosedL ops L) {i : Nat} (hi : L i = false) : ∀ (n j : Nat), descB ops n i j = true → L j = false
 | 0, _, h => by cases h
 | n + 1, j, h => by
  unfold descB at h
  rw [Bool.or_eq_true, List.any_eq_true] at h
  cases hj : L j with
  | false => rfl
  | true =>
   rcases h with h | ⟨k, _, hk⟩
   . rw [hc j i hj h] at hi; cases hi
   . rw [Bool.and_eq_true] at hk
     have h1 := hc j k hj hk.1
     rw [desc_no hc hi n k hk.2] at h1
     cases h1
structure ValI (ops : Array Oper) (C : (Nat → Bool) → (Nat → Value) → World → Prop) (a0 : Act) (listed : Array Bool) (L : Nat → Bool) (vals : Nat → Value) (a : Act) (w : World) : Prop where
 size : listed.size = ops.size
 same : ∀ i, L i = listed.getD i false
 base : BaseA ops a0 a
 cls : C L vals w
 closed : ClosedL ops L
 slots : ∀ (i : Nat) (o : Oper), ops[i]? = some o → L i = true → ∀ t, o.dst = some t → a.tmps.getD t undef = vals i
def OpGoesV (P : Program) (ops : Array Oper) (Q : Exit → Act → World → Prop) (C : (Nat → Bool) → (Nat → Value) → World → Prop) (a0 : Act) (i : Nat) (o : Oper) : Prop :=
 ∀ L vals a w, C L vals w → BaseA ops a0 a → L i = false → (∀ j, descB ops ops.size i j = true → L j = false) → (∀ j t, depB ops o j t = true → L j = true ∧ a.tmps.getD t undef = vals j) →
  (Region.wanted o (yielded ops a.tmps) = true ∧ o.wp P a w (fun a' w' => ∃ v, a' = a.put o.dst v ∧ C (updL L i) (updV vals i v) w') Q) ∨ (Region.wanted o (yielded ops a.tmps) = false ∧ C (updL L i) (updV vals i undef) w)
theorem ValI.put {ops : Array Oper} {C : (Nat → Bool) → (Nat → Value) → World → Prop} {a0 : Act} {listed : Array Bool} {L : Nat → Bool} {vals : Nat → Value} {a : Act} {w w' : World} (h : ValI ops C a0 listed L vals a w) (hap : apartB ops a0.tmps.size = true)
 {i : Nat} {o : Oper} (ho : ops[i]? = some o) (hdep : ∀ e ∈ o.after, Region.binds .any e = true → listed.getD e.on false = true) {v : Value} (hC : C (updL L i) (updV vals i v) w') : ValI ops C a0 (listed.setIfInBounds i true) (updL L i) (updV vals i v) (a.put o.dst v) w' := by
 have hi := (Array.getElem?_eq_some_iff.1 ho).1
 refine ⟨by rw [Array.size_setIfInBounds]; exact h.size, fun j => ?_, h.base.put ho v, hC, fun j k hj hd => ?_, fun j oj hj hl t ht => ?_⟩
 . by_cases hji : j = i
   . subst hji
     rw [updL_self, Array.getD_eq_getD_getElem?, Array.getElem?_setIfInBounds_self_of_lt (by rw [h.size]; exact hi)]
     rfl
   . rw [updL_ne hji, listed_set hji]; exact h.same j
 . by_cases hji : j = i
   . subst hji
     unfold dep1 at hd
     rw [ho] at hd
     simp only [Array.any_eq_true'] at hd
     obtain ⟨e, he, hb⟩ := hd
     simp only [Bool.and_eq_true, beq_iff_eq] at hb
     have h1 := hdep e he hb.1
     rw [hb.2] at h1
     by_cases hkj : k = j
     . subst hkj; exact updL_self _ _
     . rw [updL_ne hkj, h.same]; exact h1
   . rw [updL_ne hji] at hj
     have h1 := h.closed j k hj hd
     by_cases hki : k = i
     . subst hki; exact updL_self _ _
     . rw [updL_ne hki]; exact h1
 . by_cases hij : j = i
   . subst hij
     obtain rfl : o = oj := Option.some.inj (ho.symm.trans hj)
     rw [ht, updV_self]
     exact getD_put_self (by rw [h.base.size]; exact apart_lt hap ho ht)
   . rw [updL_ne hij] at hl
     rw [updV_ne hij]
     have h2 := h.slots j oj hj hl t ht
     cases hd : o.dst with
     | none => exact h2
     | some d => rw [getD_put (apart_at hap ho hj (fun e => hij e.symm) hd ht)]; exact h2
theorem wpAny_vals {P : Program} {ops : Array Oper} {Q : Exit → Act → World → Prop} {C : (Nat → Bool) → (Nat → Value) → World → Prop} {a0 : Act} (hback : backG ops = true) (hap : apartB ops a0.tmps.size = true)
 (hop : ∀ (i : Nat) (o : Oper), ops[i]? = some o → OpGoesV P ops Q C a0 i o)
 (hend : ∀ L vals a w, C L vals w → (∀ i, i < ops.size → L i = true) → BaseA ops a0 a → (∀ (i : Nat) (o : Oper), ops[i]? = some o → ∀ t, o.dst = some t → a.tmps.getD t undef = vals i) → Q .normal a w) :
 ∀ (fuel : Nat) (listed : Array Bool) (L : Nat → Bool) (vals : Nat → Value) (a : Act) (w : World), ValI ops C a0 listed L vals a w → (List.range ops.size).countP (fun i => !listed.getD i true) ≤ fuel → wpAny P .any ops Q fuel listed a w := by
 have fin : ∀ (listed : Array Bool) (L : Nat → Bool) (vals : Nat → Value) (a : Act) (w : World), ValI ops C a0 listed L vals a w → (∀ i, i < ops.size → listed.getD i true = true) → Q .normal a w := by
  intro listed L vals a w h hall
  have hL : ∀ i, i < ops.size → L i = true := fun i hi => by rw [h.same, ← getD_both (by rw [h.size]; exact hi)]; exact hall i hi
  exact hend L vals a w h.cls hL h.base fun i o ho t ht => h.slots i o ho (hL i (Array.getElem?_eq_some_iff.1 ho).1) t ht
 intro fuel
 induction fuel with
 | zero =>
  intro listed L vals a w h hc
  have hall : ∀ i, i < ops.size → listed.getD i true = true := by
   intro i hi
   have h0 : (List.range ops.size).countP (fun i => !listed.getD i true) = 0 := by omega
   rw [List.countP_eq_zero] at h0
   simpa using h0 i (List.mem_range.2 hi)
  refine ⟨?_, fin listed L vals a w h hall⟩
  apply List.eq_nil_iff_forall_not_mem.2
  intro i hm
  obtain ⟨h1, h2, _⟩ := ready_mem hm
  rw [hall i h1] at h2
  cases h2
 | succ fuel ih =>
  intro listed L vals a w h hc
  refine ⟨fun hr => fin listed L vals a w h fun i hi => ready_nilG h.size hback hr i i (Nat.le_refl _) hi, fun i hm => ?_⟩
  obtain ⟨hi, hl, o, ho, hdep⟩ := ready_mem hm
  have hcount : (List.range ops.size).countP (fun j => !(listed.setIfInBounds i true).getD j true) ≤ fuel := by
   have hless := countP_less (p := fun i => !listed.getD i true) (q := fun j => !(listed.setIfInBounds i true).getD j true) (i := i) (by simp [hl]) (by
    rw [Array.getD_eq_getD_getElem?, Array.getElem?_setIfInBounds_self_of_lt (by rw [h.size]; exact hi)]; rfl) (List.range ops.size) (List.mem_range.2 hi) (fun j _ hj => by
    by_cases hji : j = i
    . subst hji; simp [hl]
    . rw [listed_set hji] at hj; exact hj)
   omega
  have hLi : L i = false := by rw [h.same, ← getD_both (by rw [h.size]; exact hi)]; exact hl
  have hg := hop i o ho L vals a w h.cls h.base hLi (desc_no h.closed hLi ops.size) fun j t hd => by
   unfold depB at hd
   rw [Bool.and_eq_true, Array.any_eq_true'] at hd
   obtain ⟨⟨e, he, hb⟩, hj⟩ := hd
   simp only [Bool.and_eq_true, beq_iff_eq] at hb
   cases hoj : ops[j]? with
   | none => rw [hoj] at hj; cases hj
   | some oj =>
    rw [hoj] at hj
    have hl2 := hdep e he hb.1
    rw [hb.2] at hl2
    have hLj : L j = true := by rw [h.same]; exact hl2
    exact ⟨hLj, h.slots j oj hoj hLj t (by simpa using hj)⟩
  unfold wpOp
  rw [ho]
  rcases hg with ⟨h1, h2⟩ | ⟨h1, h2⟩
  . simp only [h1, if_true]
    refine .inl (Oper.wp_mono (fun a' w' hk => ?_) h2)
    obtain ⟨v, rfl, hC⟩ := hk
    exact ih _ _ _ _ _ (h.put hap ho hdep hC) hcount
  . simp only [h1]
    exact ih _ _ _ _ _ (h.put hap ho hdep h2) hcount
theorem wp_region_vals {P : Program} {ops : Array Oper} {Q : Exit → Act → World → Prop} {id : Nat} {a0 : Act} {w0 : World} (C : (Nat → Bool) → (Nat → Value) → World → Prop) (hm : P.follows .mixedOrders = true) (hC : C (fun _ => false) (fun _ => undef) w0.drew) (hback : backG ops = true) (hap : apartB ops a0.tmps.size = true)
 (hop : AllOps (OpGoesV P ops Q C a0) 0 ops.toList)
 (hend : ∀ L vals a w, C L vals w → (∀ i, i < ops.size → L i = true) → BaseA ops a0 a → (∀ (i : Nat) (o : Oper), ops[i]? = some o → ∀ t, o.dst = some t → a.tmps.getD t undef = vals i) → Q .normal a w) : (Code.region id ops true).wp P Q a0 w0 := by
 refine wp_region_any hm ?_
 have hno : ∀ i, (Array.replicate ops.size false).getD i false = false := fun i => by
  rw [Array.getD_eq_getD_getElem?, Array.getElem?_replicate]
  split <;> rfl
 refine wpAny_vals hback hap (fun i o ho => ?_) hend _ _ (fun _ => false) (fun _ => undef) _ _ ⟨by simp, fun i => (hno i).symm, ⟨rfl, rfl, fun _ _ => rfl⟩, hC, fun j k hj _ => (by cases hj), fun i o ho hl => (by cases hl)⟩ ?_
 . have := AllOps.at _ 0 hop i o (by rw [Array.getElem?_toList]; exact ho)
   rwa [Nat.zero_add] at this
 . exact Nat.le_trans (List.countP_le_length) (by simp)
def AllV (cs : List (Option Value)) (L : Nat → Bool) (vals : Nat → Value) : Prop := ∀ j c, cs[j]? = some (some c) → L j = true → vals j = c
theorem AllV.start (cs : List (Option Value)) (vals : Nat → Value) : AllV cs (fun _ => false) vals := fun _ _ _ h => by cases h
theorem AllV.upd {cs : List (Option Value)} {L : Nat → Bool} {vals : Nat → Value} (h : AllV cs L vals) {i : Nat} {v : Value} (hi : ∀ c, cs[i]? = some (some c) → v = c) : AllV cs (updL L i) (updV vals i v) := by
 intro j c hj hl
 by_cases e : j = i
 . subst e; rw [updV_self]; exact hi c hj
 . rw [updV_ne e]; rw [updL_ne e] at hl; exact h j c hj hl
structure Ph (ia ib : Nat) (Pre : World → Prop) (Mid Fin : Value → World → Prop) (L : Nat → Bool) (vals : Nat → Value) (w : World) : Prop where
 pre : L ia = false → Pre w
 mid : L ia = true → L ib = false → Mid (vals ia) w
 fin : L ib = true → Fin (vals ia) w
 ord : L ib = true → L ia = true
theorem Ph.start {ia ib : Nat} {Pre : World → Prop} {Mid Fin : Value → World → Prop} {w : World} (h : Pre w) : Ph ia ib Pre Mid Fin (fun _ => false) (fun _ => undef) w := ⟨fun _ => h, fun h => (by cases h), fun h => (by cases h), fun h => (by cases h)⟩
theorem Ph.ahead {ia ib : Nat} {Pre : World → Prop} {Mid Fin : Value → World → Prop} {L : Nat → Bool} {vals : Nat → Value} {w w' : World} (h : Ph ia ib Pre Mid Fin L vals w) (hl : L ia = false) {i : Nat} (h1 : i ≠ ia) (h2 : i ≠ ib) (v : Value) (hw : Pre w') : Ph ia ib Pre Mid Fin (updL L i) (updV vals i v) w' := by
 have hb : L ib = false := by cases hb : L ib with | false => rfl | true => rw [h.ord hb] at hl; cases hl
 refine ⟨fun _ => hw, fun h3 => ?_, fun h3 => ?_, fun h3 => ?_⟩
 . rw [updL_ne (Ne.symm h1), hl] at h3; cases h3
 . rw [updL_ne (Ne.symm h2), hb] at h3; cases h3
 . rw [updL_ne (Ne.symm h2), hb] at h3; cases h3
theorem Ph.idle {ia ib : Nat} {Pre : World → Prop} {Mid Fin : Value → World → Prop} {L : Nat → Bool} {vals : Nat → Value} {w : World} (h : Ph ia ib Pre Mid Fin L vals w) {i : Nat} (h1 : i ≠ ia) (h2 : i ≠ ib) (v : Value) : Ph ia ib Pre Mid Fin (updL L i) (updV vals i v) w := by
 refine ⟨fun h3 => ?_, fun h3 h4 => ?_, fun h3 => ?_, fun h3 => ?_⟩
 . rw [updL_ne (Ne.symm h1)] at h3; exact h.pre h3
 . rw [updL_ne (Ne.symm h1)] at h3; rw [updL_ne (Ne.symm h2)] at h4; rw [updV_ne (Ne.symm h1)]; exact h.mid h3 h4
 . rw [updL_ne (Ne.symm h2)] at h3; rw [updV_ne (Ne.symm h1)]; exact h.fin h3
 . rw [updL_ne (Ne.symm h2)] at h3; rw [updL_ne (Ne.symm h1)]; exact h.ord h3
theorem Ph.first {ia ib : Nat} {Pre : World → Prop} {Mid Fin : Value → World → Prop} {L : Nat → Bool} {vals : Nat → Value} {w w' : World} (h : Ph ia ib Pre Mid Fin L vals w) (hl : L ia = false) (hne : ia ≠ ib) {v : Value} (hw : Mid v w') : Ph ia ib Pre Mid Fin (updL L ia) (updV vals ia v) w' := by
 have hb : L ib = false := by cases hb : L ib with | false => rfl | true => rw [h.ord hb] at hl; cases hl
 refine ⟨fun h3 => ?_, fun _ _ => ?_, fun h3 => ?_, fun _ => updL_self _ _⟩
 . rw [updL_self] at h3; cases h3
 . rw [updV_self]; exact hw
 . rw [updL_ne (Ne.symm hne), hb] at h3; cases h3
theorem Ph.last {ia ib : Nat} {Pre : World → Prop} {Mid Fin : Value → World → Prop} {L : Nat → Bool} {vals : Nat → Value} {w' : World} (hl : L ia = true) (hne : ia ≠ ib) (v : Value) (hw : Fin (vals ia) w') : Ph ia ib Pre Mid Fin (updL L ib) (updV vals ib v) w' := by
 refine ⟨fun h3 => ?_, fun _ h4 => ?_, fun _ => ?_, fun _ => ?_⟩
 . rw [updL_ne hne, hl] at h3; cases h3
 . rw [updL_self] at h4; cases h4
 . rw [updV_ne hne]; exact hw
 . rw [updL_ne hne]; exact hl
theorem Ph.mono {ia ib : Nat} {Pre : World → Prop} {Mid Fin : Value → World → Prop} {L : Nat → Bool} {vals : Nat → Value} {w w' : World} (h : Ph ia ib Pre Mid Fin L vals w) {i : Nat} (h1 : i ≠ ia) (h2 : i ≠ ib) (v : Value) (k1 : Pre w → Pre w') (k2 : ∀ x, Mid x w → Mid x w') (k3 : ∀ x, Fin x w → Fin x w') : Ph ia ib Pre Mid Fin (updL L i) (updV vals i v) w' := by
 refine ⟨fun h3 => ?_, fun h3 h4 => ?_, fun h3 => ?_, fun h3 => ?_⟩
 . rw [updL_ne (Ne.symm h1)] at h3; exact k1 (h.pre h3)
 . rw [updL_ne (Ne.symm h1)] at h3; rw [updL_ne (Ne.symm h2)] at h4; rw [updV_ne (Ne.symm h1)]; exact k2 _ (h.mid h3 h4)
 . rw [updL_ne (Ne.symm h2)] at h3; rw [updV_ne (Ne.symm h1)]; exact k3 _ (h.fin h3)
 . rw [updL_ne (Ne.symm h2)] at h3; rw [updL_ne (Ne.symm h1)]; exact h.ord h3
theorem Ph.done {ia ib : Nat} {Pre : World → Prop} {Mid Fin : Value → World → Prop} {L : Nat → Bool} {vals : Nat → Value} {w' : World} (hb : L ib = true) (ha : L ia = true) {i : Nat} (h1 : i ≠ ia) (h2 : i ≠ ib) (v : Value) (hw : Fin (vals ia) w') : Ph ia ib Pre Mid Fin (updL L i) (updV vals i v) w' := by
 refine ⟨fun h3 => ?_, fun _ h4 => ?_, fun _ => ?_, fun _ => ?_⟩
 . rw [updL_ne (Ne.symm h1), ha] at h3; cases h3
 . rw [updL_ne (Ne.symm h2), hb] at h4; cases h4
 . rw [updV_ne (Ne.symm h1)]; exact hw
 . rw [updL_ne (Ne.symm h1)]; exact ha
theorem goesV_value {P : Program} {o : Oper} {a : Act} {w : World} {v : Value} {K : Value → World → Prop} {Q : Exit → Act → World → Prop} (h : (execOp a.eval o).run P w = .ok (.value v) w) (hv : K v w) : o.wp P a w (fun a' w' => ∃ v, a' = a.put o.dst v ∧ K v w') Q := by
 unfold Oper.wp
 rw [h]
 exact ⟨v, rfl, hv⟩
theorem goesV_world {P : Program} {o : Oper} {a : Act} {w w1 : World} {v : Value} {K : Value → World → Prop} {Q : Exit → Act → World → Prop} (h : (execOp a.eval o).run P w = .ok (.value v) w1) (hv : K v w1) : o.wp P a w (fun a' w' => ∃ v, a' = a.put o.dst v ∧ K v w') Q := by
 unfold Oper.wp
 rw [h]
 exact ⟨v, rfl, hv⟩
theorem goesV_skip {P : Program} {o : Oper} {a : Act} {w w1 : World} {K : Value → World → Prop} {Q : Exit → Act → World → Prop} (h : (execOp a.eval o).run P w = .ok .skip w1) (hv : K undef w1) : o.wp P a w (fun a' w' => ∃ v, a' = a.put o.dst v ∧ K v w') Q := by
 unfold Oper.wp
 rw [h]
 exact ⟨undef, rfl, hv⟩
theorem goesV_call {P : Program} {o : Oper} {a : Act} {w : World} {f : FuncId} {args : Array Value} {K : Value → World → Prop} {Q : Exit → Act → World → Prop} (h : (execOp a.eval o).run P w = .ok (.enter f args) w) (hc : Calls P f args w fun e w' => ∃ v, e = .returned v ∧ K v w') : o.wp P a w (fun a' w' => ∃ v, a' = a.put o.dst v ∧ K v w') Q := by
 unfold Oper.wp
 rw [h]
 exact hc.mono fun e w' ⟨v, he, h1⟩ => by subst he; exact ⟨v, rfl, h1⟩
theorem AllV.fix {cs : List (Option Value)} {L : Nat → Bool} {vals : Nat → Value} (h : AllV cs L vals) {i : Nat} {v : Value} (hi : cs[i]? = some (some v)) : AllV cs (updL L i) (updV vals i v) :=
 h.upd fun c hc => by rw [hi] at hc; exact Option.some.inj (Option.some.inj hc)
theorem AllV.free {cs : List (Option Value)} {L : Nat → Bool} {vals : Nat → Value} (h : AllV cs L vals) {i : Nat} {v : Value} (hi : cs[i]? = some none) : AllV cs (updL L i) (updV vals i v) :=
 h.upd fun c hc => by rw [hi] at hc; cases hc
theorem AllV.at {cs : List (Option Value)} {L : Nat → Bool} {vals : Nat → Value} (h : AllV cs L vals) {j : Nat} {c x : Value} (hj : cs[j]? = some (some c)) (hd : L j = true ∧ x = vals j) : x = c := hd.2.trans (h j c hj hd.1)
theorem goesV_append {P : Program} {w : World} {o : Oper} {a : Act} {K : Value → World → Prop} {Q : Exit → Act → World → Prop} (s x : Operand) (t : TypeId)
 (ho : o.op = .call { callee := .builtin .append, args := #[s, x], argTypes := #[t, t] })
 (base : Nat) (e : TypeId) (i : TypeInfo) (z : Value) (size bytes : Nat) (ht : P.underlying t = some (.slice e)) (hi : P.info? e = some i) (hz : i.zero = some z)
 (hsize : i.size = size) (hby : i.bytes = bytes) (hzs : z.cells.size = size) (hsz : 0 < size)
 (v : Value) (n : Nat) (xs : List Value) (hs : a.eval s = v) (hown : w.ownsRow base e size v n xs)
 (ad : Addr) (m cap : Nat) (news : List Value) (hx : a.eval x = .slice (some ad) m cap) (hlen : news.length = m * size) (hnews : ∀ j u, news[j]? = some u → w.cell? (ad.add j) = some u) (h1 : ∀ u ∈ news, u.oneCell' = true)
 (h63 : n + m ≤ maxLen) (hbytes : (n + m) * bytes ≤ 140737488355328) (hbase : base ≤ w.heap.size)
 (h : ∀ v' w', w'.ownsRow base e size v' (n + m) (xs ++ news) → w.grownBy w' v.ownBlock → MovedTo w v v' → K v' w') : o.wp P a w (fun a' w' => ∃ v, a' = a.put o.dst v ∧ K v w') Q := by
 obtain ⟨v', w', hrun, h2, h3, h4⟩ := run_append_row (P := P) w base t o.type e i z size bytes ht hi hz hsize hby hzs hsz v n xs hown ad m cap news hlen hnews h1 h63 hbytes hbase
 unfold Oper.wp execOp
 simp only [ho, resolve, invoke, builtin, Sem.run_bind, Sem.run_pure, Result.andThen_ok, List.map_toArray, List.map_cons, List.map_nil, hs, hx, hrun]
 exact ⟨v', rfl, h v' w' h2 h3 h4⟩
end Go.Proofs.YtbfcbicbeagjkaaGreatDoor
namespace Go.Proofs.YtbfcbicbeagjkaaGreatDoor
open Go.RowKit
def LateI (z p q : Nat) (Ψ : Nat → Value → World → Prop) (C : World → Prop) (Fin : Value → Value → World → World → Prop) (L : Nat → Bool) (vals : Nat → Value) (W : World) : Prop :=
 ∃ W0, C W0 ∧ (∀ i, i ≠ z → L i = true → Ψ i (vals i) W0) ∧ (L z = false → W = W0) ∧ (L z = true → L p = true ∧ L q = true ∧ Fin (vals p) (vals q) W0 W)
def OpEarly (P : Program) (ops : Array Oper) (Q : Exit → Act → World → Prop) (Ψ : Nat → Value → World → Prop) (C : World → Prop) (a0 : Act) (i : Nat) (o : Oper) : Prop :=
 ∀ a w, C w → BaseA ops a0 a → (∀ j t, depB ops o j t = true → ∃ v, Ψ j v w ∧ a.tmps.getD t undef = v) →
  (Region.wanted o (yielded ops a.tmps) = true ∧ o.wp P a w (fun a' w' => ∃ v, a' = a.put o.dst v ∧ C w' ∧ Below w.heap.size w w' ∧ Ψ i v w') Q) ∨ (Region.wanted o (yielded ops a.tmps) = false ∧ Ψ i undef w)
def OpPure (P : Program) (ops : Array Oper) (Ψ : Nat → Value → World → Prop) (C : World → Prop) (a0 : Act) (i : Nat) (o : Oper) : Prop :=
 ∀ a w W, C w → BaseA ops a0 a → (∀ j t, depB ops o j t = true → ∃ v, Ψ j v w ∧ a.tmps.getD t undef = v) →
  (Region.wanted o (yielded ops a.tmps) = true ∧ ∃ v, (execOp a.eval o).run P W = .ok (.value v) W ∧ Ψ i v w) ∨ (Region.wanted o (yielded ops a.tmps) = false ∧ Ψ i undef w)
def OpWrite (P : Program) (ops : Array Oper) (Q : Exit → Act → World → Prop) (p q : Nat) (Ψ : Nat → Value → World → Prop) (C : World → Prop) (Fin : Value → Value → World → World → Prop) (a0 : Act) (o : Oper) : Prop :=
 ∀ (vals : Nat → Value) a w, C w → BaseA ops a0 a → (∀ j t, depB ops o j t = true → Ψ j (vals j) w ∧ a.tmps.getD t undef = vals j) →
  Region.wanted o (yielded ops a.tmps) = true ∧ o.wp P a w (fun a' w' => ∃ v, a' = a.put o.dst v ∧ Fin (vals p) (vals q) w w') Q
def OpL (P : Program) (ops : Array Oper) (Q : Exit → Act → World → Prop) (z p q : Nat) (Ψ : Nat → Value → World → Prop) (C : World → Prop) (Fin : Value → Value → World → World → Prop) (a0 : Act) (i : Nat) (o : Oper) : Prop :=
 if i = z then OpWrite P ops Q p q Ψ C Fin a0 o else if descB ops ops.size i z then OpEarly P ops Q Ψ C a0 i o else OpPure P ops Ψ C a0 i o
theorem OpL.write {P : Program} {ops : Array Oper} {Q : Exit → Act → World → Prop} {z p q : Nat} {Ψ : Nat → Value → World → Prop} {C : World → Prop} {Fin : Value → Value → World → World → Prop} {a0 : Act} {i : Nat} {o : Oper} (hi : (i == z) = true) (h : OpWrite P ops Q p q Ψ C Fin a0 o) : OpL P ops Q z p q Ψ C Fin a0 i o := by
 unfold OpL; rw [if_pos (by simpa using hi)]; exact h
theorem OpL.early {P : Program} {ops : Array Oper} {Q : Exit → Act → World → Prop} {z p q : Nat} {Ψ : Nat → Value → World → Prop} {C : World → Prop} {Fin : Value → Value → World → World → Prop} {a0 : Act} {i : Nat} {o : Oper} (hi : (i == z) = false) (hd : descB ops ops.size i z = true) (h : OpEarly P ops Q Ψ C a0 i o) : OpL P ops Q z p q Ψ C Fin a0 i o := by
 unfold OpL; rw [if_neg (by simpa using hi), if_pos hd]; exact h
theorem OpL.pure {P : Program} {ops : Array Oper} {Q : Exit → Act → World → Prop} {z p q : Nat} {Ψ : Nat → Value → World → Prop} {C : World → Prop} {Fin : Value → Value → World → World → Prop} {a0 : Act} {i : Nat} {o : Oper} (hi : (i == z) = false) (hd : descB ops ops.size i z = false) (h : OpPure P ops Ψ C a0 i o) : OpL P ops Q z p q Ψ C Fin a0 i o := by
 unfold OpL; rw [if_neg (by simpa using hi), if_neg (by rw [hd]; simp)]; exact h
theorem wp_region_late {P : Program} {ops : Array Oper} {Q : Exit → Act → World → Prop} {id : Nat} {a0 : Act} {w0 : World} (z p q tp tq : Nat) (Ψ : Nat → Value → World → Prop) (C : World → Prop) (Fin : Value → Value → World → World → Prop) (hm : P.follows .mixedOrders = true) (hC : C w0.drew) (hmono : ∀ i v w w', Below w.heap.size w w' → Ψ i v w → Ψ i v w') (hback : backG ops = true) (hap : apartB ops a0.tmps.size = true)
 (hzs : (match ops[z]? with | some o => o.dst.isNone && (depB ops o p tp && depB ops o q tq) | none => false) = true)
 (hop : AllOps (OpL P ops Q z p q Ψ C Fin a0) 0 ops.toList)
 (hend : ∀ (vals : Nat → Value) a w0' w, C w0' → Fin (vals p) (vals q) w0' w → BaseA ops a0 a → (∀ (i : Nat) (o : Oper), ops[i]? = some o → i ≠ z → Ψ i (vals i) w0' ∧ ∀ t, o.dst = some t → a.tmps.getD t undef = vals i) → Q .normal a w) : (Code.region id ops true).wp P Q a0 w0 := by
 obtain ⟨oz, hoz, hzn, hzp, hzq⟩ : ∃ oz, ops[z]? = some oz ∧ oz.dst.isNone = true ∧ depB ops oz p tp = true ∧ depB ops oz q tq = true := by
  cases h : ops[z]? with
  | none => rw [h] at hzs; cases hzs
  | some o => rw [h] at hzs; simp only [Bool.and_eq_true] at hzs; exact ⟨o, rfl, hzs⟩
 refine wp_region_vals (LateI z p q Ψ C Fin) hm ⟨_, hC, (fun i _ h => by cases h), (fun _ => rfl), (fun h => by cases h)⟩ hback hap ?_ ?_
 . have key : ∀ (i : Nat) (o : Oper), ops[i]? = some o → OpL P ops Q z p q Ψ C Fin a0 i o → OpGoesV P ops Q (LateI z p q Ψ C Fin) a0 i o := by
    intro i o ho hL L vals a w hI hB hli hD hdep
    obtain ⟨W0, hC0, hall, hz0, hz1⟩ := hI
    have upd : ∀ v W1, i ≠ z → C W1 → (∀ j, j ≠ z → L j = true → Ψ j (vals j) W1) → Ψ i v W1 → ∀ j, j ≠ z → updL L i j = true → Ψ j (updV vals i v j) W1 := by
     intro v W1 _ _ h1 h2 j hj hlj
     by_cases e : j = i
     . subst e; rw [updV_self]; exact h2
     . rw [updV_ne e]; rw [updL_ne e] at hlj; exact h1 j hj hlj
    unfold OpL at hL
    by_cases hiz : i = z
    . subst hiz
      rw [if_pos rfl] at hL
      obtain rfl : oz = o := Option.some.inj (hoz.symm.trans ho)
      obtain rfl := hz0 hli
      have hpi : p ≠ i := fun e => by rw [e] at hzp; rw [(hdep i tp hzp).1] at hli; cases hli
      have hqi : q ≠ i := fun e => by rw [e] at hzq; rw [(hdep i tq hzq).1] at hli; cases hli
      obtain ⟨hw, hgo⟩ := hL vals a w hC0 hB fun j t hd => ⟨hall j (fun e => by rw [e] at hd; rw [(hdep i t hd).1] at hli; cases hli) (hdep j t hd).1, (hdep j t hd).2⟩
      refine .inl ⟨hw, ?_⟩
      refine Oper.wp_mono ?_ hgo
      rintro a' w' ⟨v, ha, hF⟩
      refine ⟨v, ha, w, hC0, fun j hj hlj => ?_, fun h => ?_, fun _ => ⟨?_, ?_, ?_⟩⟩
      . rw [updV_ne hj]; rw [updL_ne hj] at hlj; exact hall j hj hlj
      . rw [updL_self] at h; cases h
      . rw [updL_ne hpi]; exact (hdep p tp hzp).1
      . rw [updL_ne hqi]; exact (hdep q tq hzq).1
      . rw [updV_ne hpi, updV_ne hqi]; exact hF
    . rw [if_neg hiz] at hL
      have hdeps : ∀ j t, depB ops o j t = true → ∃ v, Ψ j v W0 ∧ a.tmps.getD t undef = v := fun j t hd => by
       refine ⟨vals j, hall j (fun e => ?_) (hdep j t hd).1, (hdep j t hd).2⟩
       subst e
       unfold depB at hd
       rw [hoz] at hd
       rw [Option.isNone_iff_eq_none] at hzn
       simp [hzn] at hd
      have hzi : ∀ v : Bool, L z = v → updL L i z = v := fun v h => by rw [updL_ne (fun e => hiz e.symm)]; exact h
      have hpq : L z = true → p ≠ i ∧ q ≠ i := fun h => ⟨fun e => (by rw [← e, (hz1 h).1] at hli; cases hli), fun e => (by rw [← e, (hz1 h).2.1] at hli; cases hli)⟩
      cases hdz : descB ops ops.size i z with
      | true =>
       rw [hdz, if_pos rfl] at hL
       have hlz := hD z hdz
       obtain rfl := hz0 hlz
       rcases hL a w hC0 hB hdeps with ⟨hw, hgo⟩ | ⟨hw, hpsi⟩
       . refine .inl ⟨hw, ?_⟩
         refine Oper.wp_mono ?_ hgo
         rintro a' w' ⟨v, ha, hC', hb, hpsi⟩
         refine ⟨v, ha, w', hC', upd v w' hiz hC' (fun j hj hlj => hmono _ _ _ _ hb (hall j hj hlj)) hpsi, fun _ => rfl, fun h => ?_⟩
         rw [hzi _ hlz] at h; cases h
       . refine .inr ⟨hw, w, hC0, upd undef w hiz hC0 hall hpsi, fun _ => rfl, fun h => ?_⟩
         rw [hzi _ hlz] at h; cases h
      | false =>
       rw [hdz, if_neg (by simp)] at hL
       have tail : ∀ v, Ψ i v W0 → LateI z p q Ψ C Fin (updL L i) (updV vals i v) w := fun v hpsi => by
        refine ⟨W0, hC0, upd v W0 hiz hC0 hall hpsi, fun h => hz0 (by rw [← hzi _ rfl]; exact h), fun h => ?_⟩
        have hlz : L z = true := by rw [← hzi _ rfl]; exact h
        obtain ⟨h1, h2, h3⟩ := hz1 hlz
        rw [updL_ne (hpq hlz).1, updL_ne (hpq hlz).2, updV_ne (hpq hlz).1, updV_ne (hpq hlz).2]
        exact ⟨h1, h2, h3⟩
       rcases hL a W0 w hC0 hB hdeps with ⟨hw, v, hr, hpsi⟩ | ⟨hw, hpsi⟩
       . exact .inl ⟨hw, goesV_value hr (tail v hpsi)⟩
       . exact .inr ⟨hw, tail undef hpsi⟩
   have lift : ∀ (l : List Oper) (k : Nat), (∀ (i : Nat) (o : Oper), l[i]? = some o → ops[k + i]? = some o) → AllOps (OpL P ops Q z p q Ψ C Fin a0) k l → AllOps (OpGoesV P ops Q (LateI z p q Ψ C Fin) a0) k l := by
    intro l
    induction l with
    | nil => intro k _ _; exact trivial
    | cons o r ih =>
     intro k hk h
     exact ⟨key k o (hk 0 o rfl) h.1, ih (k + 1) (fun i o' h' => by rw [Nat.add_assoc, Nat.add_comm 1 i]; exact hk (i + 1) o' h') h.2⟩
   exact lift _ 0 (fun i o h => by rw [Nat.zero_add, ← Array.getElem?_toList]; exact h) hop
 . intro L vals a w hI hL hB hslots
   obtain ⟨W0, hC0, hall, _, hz1⟩ := hI
   exact hend vals a W0 w hC0 (hz1 (hL z (Array.getElem?_eq_some_iff.1 hoz).1)).2.2 hB fun i o ho hi => ⟨hall i hi (hL i (Array.getElem?_eq_some_iff.1 ho).1), hslots i o ho⟩
def nothing : Value → World → Prop := fun _ _ => True
theorem nothing_stays : Stays nothing := fun _ _ _ _ h => h
theorem goes_world {P : Program} {o : Oper} {a : Act} {w w1 : World} {v : Value} {C : World → Prop} {p : Value → World → Prop} {Q : Exit → Act → World → Prop} (h : (execOp a.eval o).run P w = .ok (.value v) w1) (hC : C w1) (hb : Below w.heap.size w w1) (hv : p v w1) : o.wp P a w (fun a' w' => ∃ v, a' = a.put o.dst v ∧ C w' ∧ Below w.heap.size w w' ∧ p v w') Q := by
 unfold Oper.wp
 rw [h]
 exact ⟨v, rfl, hC, hb, hv⟩
theorem writes_skip {P : Program} {o : Oper} {a : Act} {w w1 : World} {K : World → Prop} {Q : Exit → Act → World → Prop} (h : (execOp a.eval o).run P w = .ok .skip w1) (hv : K w1) : o.wp P a w (fun a' w' => ∃ v, a' = a.put o.dst v ∧ K w') Q := by
 unfold Oper.wp
 rw [h]
 exact ⟨undef, rfl, hv⟩
end Go.Proofs.YtbfcbicbeagjkaaGreatDoor
