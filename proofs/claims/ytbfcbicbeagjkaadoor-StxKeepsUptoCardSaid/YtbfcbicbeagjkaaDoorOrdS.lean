/- A region whose order is drawn, and which ends with writes, one behind the other. No walk here. -/
import Derived.Test.YtbfcbicbeagjkaaDoorOrdL
namespace Go.Proofs.YtbfcbicbeagjkaaDoor
open Go.RowKit

def OpGoesS (P : Program) (ops : Array Oper) (Q : Exit → Act → World → Prop) (C : (Nat → Bool) → (Nat → Value) → World → Prop) (a0 : Act) (i : Nat) (o : Oper) : Prop :=
  ∀ L vals a w, C L vals w → BaseA ops a0 a → L i = false → ClosedL ops L → (∀ j, dep1 ops i j = true → L j = true) → (∀ j t, depB ops o j t = true → L j = true ∧ a.tmps.getD t undef = vals j) →
    (Region.wanted o (yielded ops a.tmps) = true ∧ o.wp P a w (fun a' w' => ∃ v, a' = a.put o.dst v ∧ C (updL L i) (updV vals i v) w') Q) ∨ (Region.wanted o (yielded ops a.tmps) = false ∧ C (updL L i) (updV vals i undef) w)
theorem wpAny_seqv {P : Program} {ops : Array Oper} {Q : Exit → Act → World → Prop} {C : (Nat → Bool) → (Nat → Value) → World → Prop} {a0 : Act} (hback : backG ops = true) (hap : apartB ops a0.tmps.size = true)
    (hop : ∀ (i : Nat) (o : Oper), ops[i]? = some o → OpGoesS P ops Q C a0 i o)
    (hend : ∀ L vals a w, C L vals w → (∀ i, i < ops.size → L i = true) → BaseA ops a0 a → (∀ (i : Nat) (o : Oper), ops[i]? = some o → ∀ t, o.dst = some t → a.tmps.getD t undef = vals i) → Q .normal a w) :
    ∀ (fuel : Nat) (listed : Array Bool) (L : Nat → Bool) (vals : Nat → Value) (a : Act) (w : World), ValI ops C a0 listed L vals a w → (List.range ops.size).countP (fun i => !listed.getD i true) ≤ fuel → wpAny P .any ops Q fuel listed a w := by
  have fin : ∀ (listed : Array Bool) (L : Nat → Bool) (vals : Nat → Value) (a : Act) (w : World), ValI ops C a0 listed L vals a w → (∀ i, i < ops.size → listed.getD i true = true) → Q .normal a w := by
    intro listed L vals a w h hall
    have hL : ∀ i, i < ops.size → L i = true := fun i hi => by rw [h.same, ← getD_both (by rw [h.size]; exact hi)]; exact hall i hi
    exact hend L vals a w h.cls hL h.base fun i o ho t ht => h.slots i o ho (hL i (Array.getElem?_eq_some_iff.1 ho).1) t ht
  intro fuel
  induction fuel with
  | zero =>
    intro listed L vals a w h hc
    have hall : ∀ i, i < ops.size → listed.getD i true = true := by
      intro i hi
      have h0 : (List.range ops.size).countP (fun i => !listed.getD i true) = 0 := by omega
      rw [List.countP_eq_zero] at h0
      simpa using h0 i (List.mem_range.2 hi)
    refine ⟨?_, fin listed L vals a w h hall⟩
    apply List.eq_nil_iff_forall_not_mem.2
    intro i hm
    obtain ⟨h1, h2, _⟩ := ready_mem hm
    rw [hall i h1] at h2
    cases h2
  | succ fuel ih =>
    intro listed L vals a w h hc
    refine ⟨fun hr => fin listed L vals a w h fun i hi => ready_nilG h.size hback hr i i (Nat.le_refl _) hi, fun i hm => ?_⟩
    obtain ⟨hi, hl, o, ho, hdep⟩ := ready_mem hm
    have hcount : (List.range ops.size).countP (fun j => !(listed.setIfInBounds i true).getD j true) ≤ fuel := by
      have hless := countP_less (p := fun i => !listed.getD i true) (q := fun j => !(listed.setIfInBounds i true).getD j true) (i := i) (by simp [hl]) (by
        rw [Array.getD_eq_getD_getElem?, Array.getElem?_setIfInBounds_self_of_lt (by rw [h.size]; exact hi)]; rfl) (List.range ops.size) (List.mem_range.2 hi) (fun j _ hj => by
        by_cases hji : j = i
        · subst hji; simp [hl]
        · rw [listed_set hji] at hj; exact hj)
      omega
    have hLi : L i = false := by rw [h.same, ← getD_both (by rw [h.size]; exact hi)]; exact hl
    have hg := hop i o ho L vals a w h.cls h.base hLi h.closed (fun j hd => by
      unfold dep1 at hd
      rw [ho] at hd
      simp only [Array.any_eq_true'] at hd
      obtain ⟨e, he, hb⟩ := hd
      simp only [Bool.and_eq_true, beq_iff_eq] at hb
      have hl2 := hdep e he hb.1
      rw [hb.2] at hl2
      rw [h.same]
      exact hl2) fun j t hd => by
      unfold depB at hd
      rw [Bool.and_eq_true, Array.any_eq_true'] at hd
      obtain ⟨⟨e, he, hb⟩, hj⟩ := hd
      simp only [Bool.and_eq_true, beq_iff_eq] at hb
      cases hoj : ops[j]? with
      | none => rw [hoj] at hj; cases hj
      | some oj =>
        rw [hoj] at hj
        have hl2 := hdep e he hb.1
        rw [hb.2] at hl2
        have hLj : L j = true := by rw [h.same]; exact hl2
        exact ⟨hLj, h.slots j oj hoj hLj t (by simpa using hj)⟩
    unfold wpOp
    rw [ho]
    rcases hg with ⟨h1, h2⟩ | ⟨h1, h2⟩
    · simp only [h1, if_true]
      refine .inl (Oper.wp_mono (fun a' w' hk => ?_) h2)
      obtain ⟨v, rfl, hC⟩ := hk
      exact ih _ _ _ _ _ (h.put hap ho hdep hC) hcount
    · simp only [h1]
      exact ih _ _ _ _ _ (h.put hap ho hdep h2) hcount
/-- THE LAW. -/
theorem wp_region_seqv {P : Program} {ops : Array Oper} {Q : Exit → Act → World → Prop} {id : Nat} {a0 : Act} {w0 : World} (C : (Nat → Bool) → (Nat → Value) → World → Prop) (hm : P.follows .mixedOrders = true) (hC : C (fun _ => false) (fun _ => undef) w0.drew) (hback : backG ops = true) (hap : apartB ops a0.tmps.size = true)
    (hop : AllOps (OpGoesS P ops Q C a0) 0 ops.toList)
    (hend : ∀ L vals a w, C L vals w → (∀ i, i < ops.size → L i = true) → BaseA ops a0 a → (∀ (i : Nat) (o : Oper), ops[i]? = some o → ∀ t, o.dst = some t → a.tmps.getD t undef = vals i) → Q .normal a w) : (Code.region id ops true).wp P Q a0 w0 := by
  refine wp_region_any hm ?_
  have hno : ∀ i, (Array.replicate ops.size false).getD i false = false := fun i => by
    rw [Array.getD_eq_getD_getElem?, Array.getElem?_replicate]
    split <;> rfl
  refine wpAny_seqv hback hap (fun i o ho => ?_) hend _ _ (fun _ => false) (fun _ => undef) _ _ ⟨by simp, fun i => (hno i).symm, ⟨rfl, rfl, fun _ _ => rfl⟩, hC, fun j k hj _ => (by cases hj), fun i o ho hl => (by cases hl)⟩ ?_
  · have := AllOps.at _ 0 hop i o (by rw [Array.getElem?_toList]; exact ho)
    rwa [Nat.zero_add] at this
  · exact Nat.le_trans (List.countP_le_length) (by simp)

/-- A write: its operation, whose value it writes, and what it does. -/
abbrev WrT := Nat × Nat × (Value → World → World)
def runW : List WrT → (Nat → Bool) → (Nat → Value) → World → World
  | [], _, _, W => W
  | x :: r, L, vals, W => if L x.1 then runW r L vals (x.2.2 (vals x.2.1) W) else W
def runAll (ws : List WrT) (vals : Nat → Value) (W : World) : World := ws.foldl (fun W x => x.2.2 (vals x.2.1) W) W
def chainB (ops : Array Oper) : List Nat → Bool
  | a :: b :: r => dep1 ops b a && chainB ops (b :: r)
  | _ => true
def isZ (ws : List WrT) (i : Nat) : Bool := ws.any fun x => x.1 == i
theorem isZ_no {ws : List WrT} {i : Nat} (h : isZ ws i = false) : ∀ x ∈ ws, x.1 ≠ i := by
  intro x hx e
  unfold isZ at h
  rw [List.any_eq_false] at h
  exact h x hx (by simpa using e)
theorem chain_false {ops : Array Oper} {L : Nat → Bool} (hc : ClosedL ops L) : ∀ (l : List Nat) (a : Nat), chainB ops (a :: l) = true → L a = false → ∀ z ∈ l, L z = false
  | [], _, _, _, z, hz => by cases hz
  | b :: r, a, h, ha, z, hz => by
    unfold chainB at h
    rw [Bool.and_eq_true] at h
    have hb : L b = false := by
      cases hb : L b with
      | false => rfl
      | true => rw [hc b a hb h.1] at ha; cases ha
    rcases List.mem_cons.1 hz with rfl | hz
    · exact hb
    · exact chain_false hc r b h.2 hb z hz
theorem chain_true {ops : Array Oper} {L : Nat → Bool} (hc : ClosedL ops L) : ∀ (pre post : List Nat) (z : Nat), chainB ops (pre ++ z :: post) = true → (∀ j, dep1 ops z j = true → L j = true) → ∀ y ∈ pre, L y = true
  | [], _, _, _, _, y, hy => by cases hy
  | [a], post, z, h, hd, y, hy => by
    simp only [List.singleton_append, chainB, Bool.and_eq_true] at h
    simp only [List.mem_singleton] at hy
    subst hy
    exact hd _ h.1
  | a :: b :: r, post, z, h, hd, y, hy => by
    simp only [List.cons_append, chainB, Bool.and_eq_true] at h
    have ih := chain_true hc (b :: r) post z h.2 hd
    rcases List.mem_cons.1 hy with rfl | hy
    · exact hc b _ (ih b (by simp)) h.1
    · exact ih y hy
theorem runW_pre : ∀ (pre post : List WrT) (x : WrT) (L : Nat → Bool) (vals : Nat → Value) (W : World), (∀ y ∈ pre, L y.1 = true) → L x.1 = false → runW (pre ++ x :: post) L vals W = runAll pre vals W
  | [], post, x, L, vals, W, _, hx => by simp [runW, runAll, hx]
  | a :: r, post, x, L, vals, W, h, hx => by
    simp only [List.cons_append, runW, h a (by simp), if_true, runAll, List.foldl_cons]
    exact runW_pre r post x L vals _ (fun y hy => h y (by simp [hy])) hx
theorem runW_all : ∀ (ws : List WrT) (L : Nat → Bool) (vals : Nat → Value) (W : World), (∀ y ∈ ws, L y.1 = true) → runW ws L vals W = runAll ws vals W
  | [], _, _, _, _ => rfl
  | a :: r, L, vals, W, h => by
    simp only [runW, h a (by simp), if_true, runAll, List.foldl_cons]
    exact runW_all r L vals _ fun y hy => h y (by simp [hy])
theorem runW_none : ∀ (ws : List WrT) (L : Nat → Bool) (vals : Nat → Value) (W : World), (∀ y ∈ ws, L y.1 = false) → runW ws L vals W = W
  | [], _, _, _, _ => rfl
  | a :: r, L, vals, W, h => by simp [runW, h a (by simp)]
theorem runW_mid : ∀ (pre post : List WrT) (x : WrT) (L : Nat → Bool) (vals : Nat → Value) (W : World), (∀ y ∈ pre, L y.1 = true) → L x.1 = true → (∀ y ∈ post, L y.1 = false) → runW (pre ++ x :: post) L vals W = x.2.2 (vals x.2.1) (runAll pre vals W)
  | [], post, x, L, vals, W, _, hx, hp => by simp [runW, runAll, hx]; exact runW_none post L vals _ (by simpa using hp)
  | a :: r, post, x, L, vals, W, h, hx, hp => by
    simp only [List.cons_append, runW, h a (by simp), if_true, runAll, List.foldl_cons]
    exact runW_mid r post x L vals _ (fun y hy => h y (by simp [hy])) hx hp
theorem runW_upd : ∀ (ws : List WrT) (L : Nat → Bool) (vals : Nat → Value) (W : World) (i : Nat) (v : Value), (∀ y ∈ ws, y.1 ≠ i) → (∀ y ∈ ws, L y.1 = true → y.2.1 ≠ i) → runW ws (updL L i) (updV vals i v) W = runW ws L vals W
  | [], _, _, _, _, _, _, _ => rfl
  | a :: r, L, vals, W, i, v, h1, h2 => by
    simp only [runW, updL_ne (h1 a (by simp))]
    cases hL : L a.1 with
    | false => rfl
    | true =>
      simp only [if_true, updV_ne (h2 a (by simp) hL)]
      exact runW_upd r L vals _ i v (fun y hy => h1 y (by simp [hy])) fun y hy => h2 y (by simp [hy])
theorem runAll_upd : ∀ (ws : List WrT) (vals : Nat → Value) (W : World) (i : Nat) (v : Value), (∀ y ∈ ws, y.2.1 ≠ i) → runAll ws (updV vals i v) W = runAll ws vals W
  | [], _, _, _, _, _ => rfl
  | a :: r, vals, W, i, v, h => by
    simp only [runAll, List.foldl_cons, updV_ne (h a (by simp))]
    exact runAll_upd r vals _ i v fun y hy => h y (by simp [hy])

def SeqI (ws : List WrT) (Ψ : Nat → Value → World → Prop) (C : World → Prop) (L : Nat → Bool) (vals : Nat → Value) (W : World) : Prop :=
  ∃ W0, C W0 ∧ (∀ i, isZ ws i = false → L i = true → Ψ i (vals i) W0) ∧ W = runW ws L vals W0 ∧ ∀ y ∈ ws, L y.1 = true → L y.2.1 = true
def OpWriteS (P : Program) (ops : Array Oper) (_Q : Exit → Act → World → Prop) (pre : List WrT) (x : WrT) (Ψ : Nat → Value → World → Prop) (C : World → Prop) (a0 : Act) (o : Oper) : Prop :=
  ∀ (vals : Nat → Value) a W0, C W0 → BaseA ops a0 a → (∀ j t, depB ops o j t = true → Ψ j (vals j) W0 ∧ a.tmps.getD t undef = vals j) →
    Region.wanted o (yielded ops a.tmps) = true ∧ (execOp a.eval o).run P (runAll pre vals W0) = .ok .skip (x.2.2 (vals x.2.1) (runAll pre vals W0))
def OpSq (P : Program) (ops : Array Oper) (Q : Exit → Act → World → Prop) (ws : List WrT) (z1 : Nat) (Ψ : Nat → Value → World → Prop) (C : World → Prop) (a0 : Act) (i : Nat) (o : Oper) : Prop :=
  (∃ pre x post, ws = pre ++ x :: post ∧ x.1 = i ∧ (∃ t, depB ops o x.2.1 t = true) ∧ OpWriteS P ops Q pre x Ψ C a0 o) ∨ (isZ ws i = false ∧ descB ops ops.size i z1 = true ∧ OpEarly P ops Q Ψ C a0 i o) ∨ (isZ ws i = false ∧ OpPure P ops Ψ C a0 i o)
/-- THE LAW. ws: the writes in their order, the first one z1. -/
theorem wp_region_seq {P : Program} {ops : Array Oper} {Q : Exit → Act → World → Prop} {id : Nat} {a0 : Act} {w0 : World} (ws : List WrT) (z1 : Nat) (Ψ : Nat → Value → World → Prop) (C : World → Prop) (hm : P.follows .mixedOrders = true) (hC : C w0.drew) (hmono : ∀ i v w w', Below w.heap.size w w' → Ψ i v w → Ψ i v w') (hback : backG ops = true) (hap : apartB ops a0.tmps.size = true)
    (hz1 : (ws.map (·.1)).head? = some z1) (hchain : chainB ops (ws.map (·.1)) = true) (hnd : (ws.map (·.1)).Nodup) (hpz : ∀ y ∈ ws, isZ ws y.2.1 = false) (hzd : ∀ y ∈ ws, (ops[y.1]?).map (·.dst) = some none)
    (hop : AllOps (OpSq P ops Q ws z1 Ψ C a0) 0 ops.toList)
    (hend : ∀ (vals : Nat → Value) a W0, C W0 → BaseA ops a0 a → (∀ (i : Nat) (o : Oper), ops[i]? = some o → isZ ws i = false → Ψ i (vals i) W0 ∧ ∀ t, o.dst = some t → a.tmps.getD t undef = vals i) → Q .normal a (runAll ws vals W0)) : (Code.region id ops true).wp P Q a0 w0 := by
  refine wp_region_seqv (SeqI ws Ψ C) hm ⟨_, hC, (fun i _ h => by cases h), (runW_none ws _ _ _ fun _ _ => rfl).symm, fun y _ h => by cases h⟩ hback hap ?_ ?_
  · have key : ∀ (i : Nat) (o : Oper), ops[i]? = some o → OpSq P ops Q ws z1 Ψ C a0 i o → OpGoesS P ops Q (SeqI ws Ψ C) a0 i o := by
      intro i o ho hS L vals a w hI hB hli hcl hd1 hdep
      obtain ⟨W0, hC0, hall, hW, hpl⟩ := hI
      have zslot : ∀ j t, isZ ws j = true → depB ops o j t = false := by
        intro j t hj
        unfold isZ at hj
        rw [List.any_eq_true] at hj
        obtain ⟨y, hy, hyj⟩ := hj
        have hyj : y.1 = j := by simpa using hyj
        have := hzd y hy
        rw [hyj] at this
        unfold depB
        cases hoj : ops[j]? with
        | none => simp
        | some oj =>
          rw [hoj] at this
          simp only [Option.map_some, Option.some.injEq] at this
          simp [this]
      have hdeps : ∀ j t, depB ops o j t = true → Ψ j (vals j) W0 ∧ a.tmps.getD t undef = vals j := fun j t hd => by
        refine ⟨hall j ?_ (hdep j t hd).1, (hdep j t hd).2⟩
        cases hz : isZ ws j with
        | false => rfl
        | true => rw [zslot j t hz] at hd; cases hd
      rcases hS with ⟨pre, x, post, hws, rfl, ⟨tp, htp⟩, hwr⟩ | ⟨hz, hdz, hE⟩ | ⟨hz, hPu⟩
      · subst hws
        rw [List.map_append, List.map_cons] at hchain
        have hpre : ∀ y ∈ pre, L y.1 = true := fun y hy => chain_true hcl (pre.map (·.1)) (post.map (·.1)) x.1 hchain hd1 y.1 (List.mem_map_of_mem hy)
        have hchain2 : chainB ops (x.1 :: post.map (·.1)) = true := by
          have : ∀ (p : List Nat) (q : List Nat), chainB ops (p ++ q) = true → chainB ops q = true := by
            intro p
            induction p with
            | nil => intro q h; exact h
            | cons c r ih =>
              intro q h
              cases r with
              | nil =>
                cases q with
                | nil => rfl
                | cons d s => simp only [List.singleton_append, chainB, Bool.and_eq_true] at h; exact h.2
              | cons d s =>
                simp only [List.cons_append, chainB, Bool.and_eq_true] at h
                exact ih q h.2
          exact this _ _ hchain
        have hpost : ∀ y ∈ post, L y.1 = false := fun y hy => chain_false hcl _ _ hchain2 hli y.1 (List.mem_map_of_mem hy)
        have hW1 : w = runAll pre vals W0 := by rw [hW]; exact runW_pre pre post x L vals W0 hpre hli
        obtain ⟨hw, hr⟩ := hwr vals a W0 hC0 hB hdeps
        refine .inl ⟨hw, ?_⟩
        rw [hW1]
        unfold Oper.wp
        rw [hr]
        have hnd2 := hnd
        rw [List.map_append, List.map_cons, List.nodup_append, List.nodup_cons] at hnd2
        have hxp : ∀ y ∈ pre, y.1 ≠ x.1 := fun y hy => hnd2.2.2 y.1 (List.mem_map_of_mem hy) x.1 (by simp)
        have hxq : ∀ y ∈ post, y.1 ≠ x.1 := fun y hy e => hnd2.2.1.1 (by rw [← e]; exact List.mem_map_of_mem hy)
        have hpx : ∀ y ∈ pre ++ x :: post, y.2.1 ≠ x.1 := fun y hy e => by
          have := isZ_no (hpz y hy) x (by simp)
          exact this e.symm
        refine ⟨undef, rfl, W0, hC0, fun j hj hlj => ?_, ?_, fun y hy hly => ?_⟩
        · have hjx : j ≠ x.1 := fun e => isZ_no hj x (by simp) e.symm
          rw [updV_ne hjx]; rw [updL_ne hjx] at hlj; exact hall j hj hlj
        · rw [runW_mid pre post x _ _ W0 (fun y hy => by rw [updL_ne (hxp y hy)]; exact hpre y hy) (updL_self _ _) (fun y hy => by rw [updL_ne (hxq y hy)]; exact hpost y hy), updV_ne (hpx x (by simp)), runAll_upd pre vals W0 x.1 undef fun y hy => hpx y (by simp [hy])]
        · rw [updL_ne (hpx y hy)]
          by_cases hyx : y.1 = x.1
          · have hyx2 : y = x := by
              rcases List.mem_append.1 hy with h | h
              · exact absurd hyx (hxp y h)
              · rcases List.mem_cons.1 h with h | h
                · exact h
                · exact absurd hyx (hxq y h)
            rw [hyx2]
            exact (hdep _ tp htp).1
          · rw [updL_ne hyx] at hly; exact hpl y hy hly
      · have hzi := isZ_no hz
        have hpi : ∀ y ∈ ws, L y.1 = true → y.2.1 ≠ i := fun y hy h e => by rw [← e, hpl y hy h] at hli; cases hli
        have hz1f : ∀ y ∈ ws, L y.1 = false := by
          have h1 := desc_no hcl hli ops.size z1 hdz
          cases ws with
          | nil => intro y hy; cases hy
          | cons x r =>
            simp only [List.map_cons, List.head?_cons, Option.some.injEq] at hz1
            subst hz1
            intro y hy
            rcases List.mem_cons.1 hy with rfl | hy
            · exact h1
            · exact chain_false hcl _ _ hchain h1 y.1 (List.mem_map_of_mem hy)
        have hw0 : w = W0 := by rw [hW]; exact runW_none ws L vals W0 hz1f
        subst hw0
        have tail : ∀ v W1, C W1 → Below w.heap.size w W1 → Ψ i v W1 → SeqI ws Ψ C (updL L i) (updV vals i v) W1 := fun v W1 h1 h2 h3 => by
          refine ⟨W1, h1, fun j hj hlj => ?_, (runW_none ws _ _ _ fun y hy => by rw [updL_ne (hzi y hy)]; exact hz1f y hy).symm, fun y hy h => ?_⟩
          · by_cases e : j = i
            · subst e; rw [updV_self]; exact h3
            · rw [updV_ne e]; rw [updL_ne e] at hlj; exact hmono _ _ _ _ h2 (hall j hj hlj)
          · rw [updL_ne (hzi y hy), hz1f y hy] at h; cases h
        rcases hE a w hC0 hB (fun j t hd => ⟨_, hdeps j t hd⟩) with ⟨hw, hgo⟩ | ⟨hw, hpsi⟩
        · refine .inl ⟨hw, Oper.wp_mono ?_ hgo⟩
          rintro a' w' ⟨v, ha, h1, h2, h3⟩
          exact ⟨v, ha, tail v w' h1 h2 h3⟩
        · exact .inr ⟨hw, tail undef w hC0 (Below.refl _ _) hpsi⟩
      · have hzi := isZ_no hz
        have hpi : ∀ y ∈ ws, L y.1 = true → y.2.1 ≠ i := fun y hy h e => by rw [← e, hpl y hy h] at hli; cases hli
        have tail : ∀ v, Ψ i v W0 → SeqI ws Ψ C (updL L i) (updV vals i v) w := fun v h3 => by
          refine ⟨W0, hC0, fun j hj hlj => ?_, by rw [hW, runW_upd ws L vals W0 i v hzi hpi], fun y hy h => ?_⟩
          · by_cases e : j = i
            · subst e; rw [updV_self]; exact h3
            · rw [updV_ne e]; rw [updL_ne e] at hlj; exact hall j hj hlj
          · rw [updL_ne (hzi y hy)] at h
            rw [updL_ne (hpi y hy h)]
            exact hpl y hy h
        rcases hPu a W0 w hC0 hB (fun j t hd => ⟨_, hdeps j t hd⟩) with ⟨hw, v, hr, hpsi⟩ | ⟨hw, hpsi⟩
        · exact .inl ⟨hw, goesV_value hr (tail v hpsi)⟩
        · exact .inr ⟨hw, tail undef hpsi⟩
    have lift : ∀ (l : List Oper) (k : Nat), (∀ (i : Nat) (o : Oper), l[i]? = some o → ops[k + i]? = some o) → AllOps (OpSq P ops Q ws z1 Ψ C a0) k l → AllOps (OpGoesS P ops Q (SeqI ws Ψ C) a0) k l := by
      intro l
      induction l with
      | nil => intro k _ _; exact trivial
      | cons o r ih =>
        intro k hk h
        exact ⟨key k o (hk 0 o rfl) h.1, ih (k + 1) (fun i o' h' => by rw [Nat.add_assoc, Nat.add_comm 1 i]; exact hk (i + 1) o' h') h.2⟩
    exact lift _ 0 (fun i o h => by rw [Nat.zero_add, ← Array.getElem?_toList]; exact h) hop
  · intro L vals a w hI hL hB hslots
    obtain ⟨W0, hC0, hall, hW, _⟩ := hI
    rw [hW, runW_all ws L vals W0 fun y hy => hL y.1 (by
      have := hzd y hy
      cases h : ops[y.1]? with
      | none => rw [h] at this; cases this
      | some o => exact (Array.getElem?_eq_some_iff.1 h).1)]
    exact hend vals a W0 hC0 hB fun i o ho hi => ⟨hall i hi (hL i (Array.getElem?_eq_some_iff.1 ho).1), hslots i o ho⟩
end Go.Proofs.YtbfcbicbeagjkaaDoor
