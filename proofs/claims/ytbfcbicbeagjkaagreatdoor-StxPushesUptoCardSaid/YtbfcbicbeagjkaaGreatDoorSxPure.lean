/- A region whose order is drawn, one operation of which (z) writes into what was there: by what holds of each operation's value. No walk here. | slices.Clone of limbs, ints and pieces; stx.number, stx.datum: a piece's datum with memory of its own. | law10's symbols: is a Symbol in a piece? | ref.Same of any two datums. | Three wraps around one another are the same, whichever two are joined first. No walk here. | What a wrap around, opening and flattening make of a piece, and which pieces mean the same. No walk here. -/
import Derived.Test.YtbfcbicbeagjkaaGreatDoorOrdV
import Derived.Test.YtbfcbicbeagjkaaGreatDoorSxMath
import Derived.Test.YtbfcbicbeagjkaaGreatDoorSxFew
import Derived.Test.YtbfcbicbeagjkaaGreatDoorDmOwnP
import Derived.Test.YtbfcbicbeagjkaaGreatDoorTkAtom
import Derived.Test.YtbfcbicbeagjkaaGreatDoorSxP
import Derived.Test.YtbfcbicbeagjkaaGreatDoorDm
import Derived.Test.YtbfcbicbeagjkaaGreatDoorRdMath
import Derived.StillTailTactics
import Derived.Test.YtbfcbicbeagjkaaGreatDoorTkSc
namespace Go.Proofs.YtbfcbicbeagjkaaGreatDoor
open Go.RowKit

/-- While it goes on: the world as it was ahead of the write, and what the write has made of it. -/
def LateI (z p q : Nat) (Ψ : Nat → Value → World → Prop) (C : World → Prop) (Fin : Value → Value → World → World → Prop) (L : Nat → Bool) (vals : Nat → Value) (W : World) : Prop :=
  ∃ W0, C W0 ∧ (∀ i, i ≠ z → L i = true → Ψ i (vals i) W0) ∧ (L z = false → W = W0) ∧ (L z = true → L p = true ∧ L q = true ∧ Fin (vals p) (vals q) W0 W)
def OpEarly (P : Program) (ops : Array Oper) (Q : Exit → Act → World → Prop) (Ψ : Nat → Value → World → Prop) (C : World → Prop) (a0 : Act) (i : Nat) (o : Oper) : Prop :=
  ∀ a w, C w → BaseA ops a0 a → (∀ j t, depB ops o j t = true → ∃ v, Ψ j v w ∧ a.tmps.getD t undef = v) →
    (Region.wanted o (yielded ops a.tmps) = true ∧ o.wp P a w (fun a' w' => ∃ v, a' = a.put o.dst v ∧ C w' ∧ Below w.heap.size w w' ∧ Ψ i v w') Q) ∨ (Region.wanted o (yielded ops a.tmps) = false ∧ Ψ i undef w)
/-- One that reads nothing may come behind the write. -/
def OpPure (P : Program) (ops : Array Oper) (Ψ : Nat → Value → World → Prop) (C : World → Prop) (a0 : Act) (i : Nat) (o : Oper) : Prop :=
  ∀ a w W, C w → BaseA ops a0 a → (∀ j t, depB ops o j t = true → ∃ v, Ψ j v w ∧ a.tmps.getD t undef = v) →
    (Region.wanted o (yielded ops a.tmps) = true ∧ ∃ v, (execOp a.eval o).run P W = .ok (.value v) W ∧ Ψ i v w) ∨ (Region.wanted o (yielded ops a.tmps) = false ∧ Ψ i undef w)
def OpWrite (P : Program) (ops : Array Oper) (Q : Exit → Act → World → Prop) (p q : Nat) (Ψ : Nat → Value → World → Prop) (C : World → Prop) (Fin : Value → Value → World → World → Prop) (a0 : Act) (o : Oper) : Prop :=
  ∀ (vals : Nat → Value) a w, C w → BaseA ops a0 a → (∀ j t, depB ops o j t = true → Ψ j (vals j) w ∧ a.tmps.getD t undef = vals j) →
    Region.wanted o (yielded ops a.tmps) = true ∧ o.wp P a w (fun a' w' => ∃ v, a' = a.put o.dst v ∧ Fin (vals p) (vals q) w w') Q
def OpL (P : Program) (ops : Array Oper) (Q : Exit → Act → World → Prop) (z p q : Nat) (Ψ : Nat → Value → World → Prop) (C : World → Prop) (Fin : Value → Value → World → World → Prop) (a0 : Act) (i : Nat) (o : Oper) : Prop :=
  if i = z then OpWrite P ops Q p q Ψ C Fin a0 o else if descB ops ops.size i z then OpEarly P ops Q Ψ C a0 i o else OpPure P ops Ψ C a0 i o
theorem OpL.write {P : Program} {ops : Array Oper} {Q : Exit → Act → World → Prop} {z p q : Nat} {Ψ : Nat → Value → World → Prop} {C : World → Prop} {Fin : Value → Value → World → World → Prop} {a0 : Act} {i : Nat} {o : Oper} (hi : (i == z) = true) (h : OpWrite P ops Q p q Ψ C Fin a0 o) : OpL P ops Q z p q Ψ C Fin a0 i o := by
  unfold OpL; rw [if_pos (by simpa using hi)]; exact h
theorem OpL.early {P : Program} {ops : Array Oper} {Q : Exit → Act → World → Prop} {z p q : Nat} {Ψ : Nat → Value → World → Prop} {C : World → Prop} {Fin : Value → Value → World → World → Prop} {a0 : Act} {i : Nat} {o : Oper} (hi : (i == z) = false) (hd : descB ops ops.size i z = true) (h : OpEarly P ops Q Ψ C a0 i o) : OpL P ops Q z p q Ψ C Fin a0 i o := by
  unfold OpL; rw [if_neg (by simpa using hi), if_pos hd]; exact h
theorem OpL.pure {P : Program} {ops : Array Oper} {Q : Exit → Act → World → Prop} {z p q : Nat} {Ψ : Nat → Value → World → Prop} {C : World → Prop} {Fin : Value → Value → World → World → Prop} {a0 : Act} {i : Nat} {o : Oper} (hi : (i == z) = false) (hd : descB ops ops.size i z = false) (h : OpPure P ops Ψ C a0 i o) : OpL P ops Q z p q Ψ C Fin a0 i o := by
  unfold OpL; rw [if_neg (by simpa using hi), if_neg (by rw [hd]; simp)]; exact h
theorem wp_region_late {P : Program} {ops : Array Oper} {Q : Exit → Act → World → Prop} {id : Nat} {a0 : Act} {w0 : World} (z p q tp tq : Nat) (Ψ : Nat → Value → World → Prop) (C : World → Prop) (Fin : Value → Value → World → World → Prop) (hm : P.follows .mixedOrders = true) (hC : C w0.drew) (hmono : ∀ i v w w', Below w.heap.size w w' → Ψ i v w → Ψ i v w') (hback : backG ops = true) (hap : apartB ops a0.tmps.size = true)
    (hzs : (match ops[z]? with | some o => o.dst.isNone && (depB ops o p tp && depB ops o q tq) | none => false) = true)
    (hop : AllOps (OpL P ops Q z p q Ψ C Fin a0) 0 ops.toList)
    (hend : ∀ (vals : Nat → Value) a w0' w, C w0' → Fin (vals p) (vals q) w0' w → BaseA ops a0 a → (∀ (i : Nat) (o : Oper), ops[i]? = some o → i ≠ z → Ψ i (vals i) w0' ∧ ∀ t, o.dst = some t → a.tmps.getD t undef = vals i) → Q .normal a w) : (Code.region id ops true).wp P Q a0 w0 := by
  obtain ⟨oz, hoz, hzn, hzp, hzq⟩ : ∃ oz, ops[z]? = some oz ∧ oz.dst.isNone = true ∧ depB ops oz p tp = true ∧ depB ops oz q tq = true := by
    cases h : ops[z]? with
    | none => rw [h] at hzs; cases hzs
    | some o => rw [h] at hzs; simp only [Bool.and_eq_true] at hzs; exact ⟨o, rfl, hzs⟩
  refine wp_region_vals (LateI z p q Ψ C Fin) hm ⟨_, hC, (fun i _ h => by cases h), (fun _ => rfl), (fun h => by cases h)⟩ hback hap ?_ ?_
  · have key : ∀ (i : Nat) (o : Oper), ops[i]? = some o → OpL P ops Q z p q Ψ C Fin a0 i o → OpGoesV P ops Q (LateI z p q Ψ C Fin) a0 i o := by
      intro i o ho hL L vals a w hI hB hli hD hdep
      obtain ⟨W0, hC0, hall, hz0, hz1⟩ := hI
      have upd : ∀ v W1, i ≠ z → C W1 → (∀ j, j ≠ z → L j = true → Ψ j (vals j) W1) → Ψ i v W1 → ∀ j, j ≠ z → updL L i j = true → Ψ j (updV vals i v j) W1 := by
        intro v W1 _ _ h1 h2 j hj hlj
        by_cases e : j = i
        · subst e; rw [updV_self]; exact h2
        · rw [updV_ne e]; rw [updL_ne e] at hlj; exact h1 j hj hlj
      unfold OpL at hL
      by_cases hiz : i = z
      · subst hiz
        rw [if_pos rfl] at hL
        obtain rfl : oz = o := Option.some.inj (hoz.symm.trans ho)
        obtain rfl := hz0 hli
        have hpi : p ≠ i := fun e => by rw [e] at hzp; rw [(hdep i tp hzp).1] at hli; cases hli
        have hqi : q ≠ i := fun e => by rw [e] at hzq; rw [(hdep i tq hzq).1] at hli; cases hli
        obtain ⟨hw, hgo⟩ := hL vals a w hC0 hB fun j t hd => ⟨hall j (fun e => by rw [e] at hd; rw [(hdep i t hd).1] at hli; cases hli) (hdep j t hd).1, (hdep j t hd).2⟩
        refine .inl ⟨hw, ?_⟩
        refine Oper.wp_mono ?_ hgo
        rintro a' w' ⟨v, ha, hF⟩
        refine ⟨v, ha, w, hC0, fun j hj hlj => ?_, fun h => ?_, fun _ => ⟨?_, ?_, ?_⟩⟩
        · rw [updV_ne hj]; rw [updL_ne hj] at hlj; exact hall j hj hlj
        · rw [updL_self] at h; cases h
        · rw [updL_ne hpi]; exact (hdep p tp hzp).1
        · rw [updL_ne hqi]; exact (hdep q tq hzq).1
        · rw [updV_ne hpi, updV_ne hqi]; exact hF
      · rw [if_neg hiz] at hL
        have hdeps : ∀ j t, depB ops o j t = true → ∃ v, Ψ j v W0 ∧ a.tmps.getD t undef = v := fun j t hd => by
          refine ⟨vals j, hall j (fun e => ?_) (hdep j t hd).1, (hdep j t hd).2⟩
          subst e
          unfold depB at hd
          rw [hoz] at hd
          rw [Option.isNone_iff_eq_none] at hzn
          simp [hzn] at hd
        have hzi : ∀ v : Bool, L z = v → updL L i z = v := fun v h => by rw [updL_ne (fun e => hiz e.symm)]; exact h
        have hpq : L z = true → p ≠ i ∧ q ≠ i := fun h => ⟨fun e => (by rw [← e, (hz1 h).1] at hli; cases hli), fun e => (by rw [← e, (hz1 h).2.1] at hli; cases hli)⟩
        cases hdz : descB ops ops.size i z with
        | true =>
          rw [hdz, if_pos rfl] at hL
          have hlz := hD z hdz
          obtain rfl := hz0 hlz
          rcases hL a w hC0 hB hdeps with ⟨hw, hgo⟩ | ⟨hw, hpsi⟩
          · refine .inl ⟨hw, ?_⟩
            refine Oper.wp_mono ?_ hgo
            rintro a' w' ⟨v, ha, hC', hb, hpsi⟩
            refine ⟨v, ha, w', hC', upd v w' hiz hC' (fun j hj hlj => hmono _ _ _ _ hb (hall j hj hlj)) hpsi, fun _ => rfl, fun h => ?_⟩
            rw [hzi _ hlz] at h; cases h
          · refine .inr ⟨hw, w, hC0, upd undef w hiz hC0 hall hpsi, fun _ => rfl, fun h => ?_⟩
            rw [hzi _ hlz] at h; cases h
        | false =>
          rw [hdz, if_neg (by simp)] at hL
          have tail : ∀ v, Ψ i v W0 → LateI z p q Ψ C Fin (updL L i) (updV vals i v) w := fun v hpsi => by
            refine ⟨W0, hC0, upd v W0 hiz hC0 hall hpsi, fun h => hz0 (by rw [← hzi _ rfl]; exact h), fun h => ?_⟩
            have hlz : L z = true := by rw [← hzi _ rfl]; exact h
            obtain ⟨h1, h2, h3⟩ := hz1 hlz
            rw [updL_ne (hpq hlz).1, updL_ne (hpq hlz).2, updV_ne (hpq hlz).1, updV_ne (hpq hlz).2]
            exact ⟨h1, h2, h3⟩
          rcases hL a W0 w hC0 hB hdeps with ⟨hw, v, hr, hpsi⟩ | ⟨hw, hpsi⟩
          · exact .inl ⟨hw, goesV_value hr (tail v hpsi)⟩
          · exact .inr ⟨hw, tail undef hpsi⟩
    have lift : ∀ (l : List Oper) (k : Nat), (∀ (i : Nat) (o : Oper), l[i]? = some o → ops[k + i]? = some o) → AllOps (OpL P ops Q z p q Ψ C Fin a0) k l → AllOps (OpGoesV P ops Q (LateI z p q Ψ C Fin) a0) k l := by
      intro l
      induction l with
      | nil => intro k _ _; exact trivial
      | cons o r ih =>
        intro k hk h
        exact ⟨key k o (hk 0 o rfl) h.1, ih (k + 1) (fun i o' h' => by rw [Nat.add_assoc, Nat.add_comm 1 i]; exact hk (i + 1) o' h') h.2⟩
    exact lift _ 0 (fun i o h => by rw [Nat.zero_add, ← Array.getElem?_toList]; exact h) hop
  · intro L vals a w hI hL hB hslots
    obtain ⟨W0, hC0, hall, _, hz1⟩ := hI
    exact hend vals a W0 w hC0 (hz1 (hL z (Array.getElem?_eq_some_iff.1 hoz).1)).2.2 hB fun i o ho hi => ⟨hall i hi (hL i (Array.getElem?_eq_some_iff.1 ho).1), hslots i o ho⟩
def nothing : Value → World → Prop := fun _ _ => True
theorem nothing_stays : Stays nothing := fun _ _ _ _ h => h
theorem goes_world {P : Program} {o : Oper} {a : Act} {w w1 : World} {v : Value} {C : World → Prop} {p : Value → World → Prop} {Q : Exit → Act → World → Prop} (h : (execOp a.eval o).run P w = .ok (.value v) w1) (hC : C w1) (hb : Below w.heap.size w w1) (hv : p v w1) : o.wp P a w (fun a' w' => ∃ v, a' = a.put o.dst v ∧ C w' ∧ Below w.heap.size w w' ∧ p v w') Q := by
  unfold Oper.wp
  rw [h]
  exact ⟨v, rfl, hC, hb, hv⟩
theorem writes_skip {P : Program} {o : Oper} {a : Act} {w w1 : World} {K : World → Prop} {Q : Exit → Act → World → Prop} (h : (execOp a.eval o).run P w = .ok .skip w1) (hv : K w1) : o.wp P a w (fun a' w' => ∃ v, a' = a.put o.dst v ∧ K w') Q := by
  unfold Oper.wp
  rw [h]
  exact ⟨undef, rfl, hv⟩
end Go.Proofs.YtbfcbicbeagjkaaGreatDoor
namespace Go.Proofs.YtbfcbicbeagjkaaGreatDoor
open Go.RowKit

theorem infoU3c : (Tryz.prog.info? 140).map (fun i => (i.zero, i.size, i.bytes)) = some (some (.int .u32 0), 1, 4) := by kernel_rfl
theorem ucs_one (l : List Nat) : ∀ u ∈ ucs l, u.oneCell' = true := by intro u hu; obtain ⟨_, _, rfl⟩ := List.mem_map.1 hu; rfl

set_option maxRecDepth 100000 in
set_option maxHeartbeats 1000000 in
theorem sclu_any (lv : Value) (n : Nat) (us : List Value) (w : World) (hr : RowV w lv n 1 us) (h1 : ∀ u ∈ us, u.oneCell' = true) (hl : n ≤ 2000000) :
    Calls Tryz.prog 134 #[lv] w fun e w' => ∃ v', e = .returned v' ∧ w'.ownsRow w.heap.size 140 1 v' n us ∧ Below w.heap.size w w' := by
  obtain ⟨i0, hi, hz0, hz1, hz2⟩ := info_parts infoU3c
  have q22 : ∀ (w : World) (a : Option Addr) (n c n' c' : Nat), (binOp .eql 22 (.slice a n c) (.slice none n' c')).run Tryz.prog w = .ok (.bool a.isNone) w := fun w a n c n' c' => Lib.run_eql_slice_nil w _ _ a n c n' c' Tryz.underlying22
  have HR := Lib.hid hr
  obtain ⟨hlen, _, ao, cap, rfl, _, hcase⟩ := hr
  cases ao with
  | none =>
    obtain ⟨rfl, rfl⟩ : n = 0 ∧ cap = 0 := by
      rcases hcase with ⟨h2, h3⟩ | ⟨_, _, h2, _⟩
      · exact ⟨h2, h3 rfl⟩
      · cases h2
    obtain rfl : us = [] := List.eq_nil_of_length_eq_zero (by simpa using hlen)
    clear hcase hlen
    go_enter Tryz.func134, Tryz.ntmps134
    go_wp2_with fail
    go_ret
    exact ⟨_, rfl, World.ownsRow_nil _ _ _ _, Below.refl _ _⟩
  | some ad =>
    clear hcase hlen
    go_enter Tryz.func134, Tryz.ntmps134
    go_wp2_with (at_builtin; (refine wpList_append_row _ rfl _ _ 22 rfl w.heap.size 140 i0 _ 1 4 Tryz.underlying22 hi hz0 hz1 hz2 rfl (by decide) _ 0 [] rfl (emp_row w 140) _ n us rfl (HR.out.below (below1 w _)) h1 (by unfold maxLen; omega) (by omega) (by simp) ?_); intro v' w1 hown1 hgrow hmv; rw [Nat.zero_add, List.nil_append] at hown1; have HO := Lib.hid hown1; have HG := Lib.hid hgrow; clear hown1 hgrow hmv)
    go_ret
    exact ⟨_, rfl, HO.out, (below1 w _).grown HG.out (by simp) (fun q hq => by cases hq; exact Nat.le_refl _)⟩

def isOwn1 (B : Nat) (e : TypeId) (n : Nat) (us : List Value) : Value → World → Prop := fun v W => W.ownsRow B e 1 v n us
theorem isOwn1_stays (B : Nat) (e : TypeId) (n : Nat) (us : List Value) : Stays (isOwn1 B e n us) := fun _ _ _ hb h => ownsRow_keep h (Keeps.of_below (P := fun _ => True) hb) fun _ _ => trivial
def isNum (n : Bool) (B N : Nat) (us : List Value) : Value → World → Prop := fun v W => ∃ o c, v = .agg #[.bool n, .slice o N c] ∧ W.ownsRow B 140 1 (.slice o N c) N us
theorem isNum_stays (n : Bool) (B N : Nat) (us : List Value) : Stays (isNum n B N us) := fun _ _ _ hb ⟨o, c, h1, h2⟩ => ⟨o, c, h1, isOwn1_stays _ _ _ _ _ _ _ hb h2⟩
theorem rowp2d {W : World} {g : Nat} {a0 a1 : Value} {e : TypeId} (h : W.heap[g]? = some (.cells #[a0, a1] e (0, 0))) : W.cell? ⟨g, 0, none⟩ = some a0 ∧ W.cell? ⟨g, 1, none⟩ = some a1 ∧ W.frozen? ⟨g, 0, none⟩ = false ∧ W.frozen? ⟨g, 1, none⟩ = false :=
  ⟨cell_heap h 0, cell_heap h 1, frozen_heap h 0, frozen_heap h 1⟩
theorem putp2d {W : World} {g : Nat} {a0 a1 : Value} {e : TypeId} (h : W.heap[g]? = some (.cells #[a0, a1] e (0, 0))) (b0 b1 : Value) : ((W.setCell ⟨g, 0, none⟩ b0).setCell ⟨g, 1, none⟩ b1).heap[g]? = some (.cells #[b0, b1] e (0, 0)) := (rowSet (rowSet h 0 b0) 1 b1).trans (by simp)
theorem ownsRow_base {w : World} {B B' : Nat} {e : TypeId} {size n : Nat} {v : Value} {xs : List Value} (h : w.ownsRow B e size v n xs) (hle : B' ≤ B) : w.ownsRow B' e size v n xs := by
  obtain ⟨h1, h2⟩ := h
  refine ⟨h1, ?_⟩
  rcases h2 with h2 | ⟨g, cap, cur, h3, h4, h5⟩
  · exact .inl h2
  · exact .inr ⟨g, cap, cur, h3, Nat.le_trans hle h4, h5⟩
theorem own_farT {w : World} {base n size : Nat} {e e2 : TypeId} {v : Value} {xs : List Value} (h : w.ownsRow base e size v n xs) {g : Nat} {cs : Array Value} (hg : w.heap[g]? = some (.cells cs e2 (0, 0))) (hne : e ≠ e2) : ∀ b, v.ownBlock = some b → b ≠ g := by
  intro b hb hbg
  subst hbg
  rcases h.2 with ⟨rfl, _⟩ | ⟨g', cap, cur, rfl, _, hh, _⟩
  · cases hb
  · injection hb with hb
    subst hb
    rw [hg] at hh
    injection hh with hh
    injection hh with _ h2 _
    exact hne h2.symm
theorem newsd2 {w : World} {a b : Obj} : ((w.alloc a).alloc b).heap[w.heap.size]? = some a ∧ ((w.alloc a).alloc b).heap[w.heap.size + 1]? = some b := by
  refine ⟨?_, ?_⟩
  · rw [Below.heap_alloc _ _ _ (by simp)]; exact heap_alloc_new w _
  · have := heap_alloc_new (w.alloc a) b
    simpa using this

set_option maxRecDepth 100000 in
set_option maxHeartbeats 4000000 in
theorem number_any (n : Bool) (lv : Value) (r : List Nat) (w : World) (hr : RowV w lv r.length 1 (ucs r)) (hl : r.length ≤ 2000000) :
    Calls Tryz.prog 97 #[.agg #[.bool n, lv]] w fun e w' => ∃ o c, e = .returned (.agg #[.bool n, .slice o r.length c]) ∧ w'.ownsRow w.heap.size 140 1 (.slice o r.length c) r.length (ucs r) ∧ Below w.heap.size w w' := by
  obtain ⟨lo, lc, rfl⟩ : ∃ o c, lv = .slice o r.length c := by obtain ⟨_, _, o, c, h, _⟩ := hr; exact ⟨o, c, h⟩
  have HR := Lib.hid hr
  have HLN := Lib.hid hl
  clear hr hl
  generalize r.length = N at *
  have hb1 := below2 w (.cells #[.bool n, .slice lo N lc] 24) (.cells #[.bool false, .slice none 0 0] 24)
  have hn1 := @newsd2 w (.cells #[.bool n, .slice lo N lc] 24) (.cells #[.bool false, .slice none 0 0] 24)
  go_enter Tryz.func97, Tryz.ntmps97
  go_upto_region 1 with fail
  generalize (w.alloc (.cells #[.bool n, .slice lo N lc] 24)).alloc (.cells #[.bool false, .slice none 0 0] 24) = W1 at *
  have HB1 := Lib.hid hb1
  have HX := Lib.hid hn1.1
  have HZ := Lib.hid hn1.2
  have HLT := Lib.hid (And.intro (Array.getElem?_eq_some_iff.1 hn1.1).1 (Array.getElem?_eq_some_iff.1 hn1.2).1)
  clear hb1 hn1
  refine wp_region_late 6 5 5 8 8 (psi [isV (.pointer (some ⟨w.heap.size, 0, none⟩)), isV (.bool n), isV (.pointer (some ⟨w.heap.size, 1, none⟩)), isV (.slice lo N lc), isOwn1 w.heap.size 140 N (ucs r), isNum n w.heap.size N (ucs r), nothing]) (fun W => Below W1.heap.size W1 W) (fun _ v W0 W' => ∃ a b, v = .agg #[a, b] ∧ W' = (W0.setCell ⟨w.heap.size + 1, 0, none⟩ a).setCell ⟨w.heap.size + 1, 1, none⟩ b) (by kernel_rfl) (Below.refl _ _).drew (psi_mono ?_) (by kernel_rfl) (by kernel_rfl) (by kernel_rfl) ?_ ?_
  · intro pq hp
    simp only [List.mem_cons, List.not_mem_nil, or_false] at hp
    (repeat' rcases hp with rfl | hp) <;> first | exact isV_stays _ | exact nothing_stays | (subst hp; first | exact isV_stays _ | exact nothing_stays) | exact isNum_stays _ _ _ _ | exact isOwn1_stays _ _ _ _ | (subst hp; exact isNum_stays _ _ _ _) | (subst hp; exact isOwn1_stays _ _ _ _)
  · refine AllOps.cons ?_ ?_
    · refine OpL.early (by kernel_rfl) (by kernel_rfl) fun ab W hC hB hdep => ?_
      refine .inl ⟨rfl, ?_⟩
      have b0 : ab.tmps.getD 1 undef = .pointer (some ⟨w.heap.size, 0, none⟩) := hB.off 1 (by kernel_rfl)
      clear hB hdep
      refine goes_value (v := .pointer (some ⟨w.heap.size, 0, none⟩)) ?_ hC rfl
      simp only [execOp, Act.eval, b0]
      go_simp
    refine AllOps.cons ?_ ?_
    · refine OpL.early (by kernel_rfl) (by kernel_rfl) fun ab W hC hB hdep => ?_
      refine .inl ⟨rfl, ?_⟩
      obtain ⟨x0, (q0 : (isV (.pointer (some ⟨w.heap.size, 0, none⟩))) x0 W), e0⟩ := hdep 0 3 (by kernel_rfl)
      obtain rfl : x0 = .pointer (some ⟨w.heap.size, 0, none⟩) := q0
      obtain ⟨c0, c1, z0, z1⟩ := rowp2d ((hC.block _ HLT.out.1).trans HX.out)
      clear hB hdep
      refine goes_value (v := .bool n) ?_ hC rfl
      simp only [execOp, Act.eval, e0]
      go_simp
    refine AllOps.cons ?_ ?_
    · refine OpL.early (by kernel_rfl) (by kernel_rfl) fun ab W hC hB hdep => ?_
      refine .inl ⟨rfl, ?_⟩
      have b0 : ab.tmps.getD 1 undef = .pointer (some ⟨w.heap.size, 0, none⟩) := hB.off 1 (by kernel_rfl)
      clear hB hdep
      refine goes_value (v := .pointer (some ⟨w.heap.size, 1, none⟩)) ?_ hC rfl
      simp only [execOp, Act.eval, b0]
      go_simp
    refine AllOps.cons ?_ ?_
    · refine OpL.early (by kernel_rfl) (by kernel_rfl) fun ab W hC hB hdep => ?_
      refine .inl ⟨rfl, ?_⟩
      obtain ⟨x0, (q0 : (isV (.pointer (some ⟨w.heap.size, 1, none⟩))) x0 W), e0⟩ := hdep 2 5 (by kernel_rfl)
      obtain rfl : x0 = .pointer (some ⟨w.heap.size, 1, none⟩) := q0
      obtain ⟨c0, c1, z0, z1⟩ := rowp2d ((hC.block _ HLT.out.1).trans HX.out)
      clear hB hdep
      refine goes_value (v := .slice lo N lc) ?_ hC rfl
      simp only [execOp, Act.eval, e0]
      go_simp
    refine AllOps.cons ?_ ?_
    · refine OpL.early (by kernel_rfl) (by kernel_rfl) fun ab W hC hB hdep => ?_
      refine .inl ⟨rfl, ?_⟩
      obtain ⟨x0, (q0 : (isV (.slice lo N lc)) x0 W), e0⟩ := hdep 3 6 (by kernel_rfl)
      obtain rfl : x0 = .slice lo N lc := q0
      clear hB hdep
      refine goes_call (f := 134) (args := #[.slice lo N lc]) ?_ ?_
      · simp only [execOp]
        go_simp
      · exact (sclu_any _ N (ucs r) W (HR.out.below (HB1.out.trans (hC.mono HB1.out.size))) (ucs_one _) HLN.out).mono fun e w7 ⟨v7, he, ho, hb⟩ => ⟨v7, he, hC.trans (hb.mono hC.size), hb, ownsRow_base ho (Nat.le_trans HB1.out.size hC.size)⟩
    refine AllOps.cons ?_ ?_
    · refine OpL.early (by kernel_rfl) (by kernel_rfl) fun ab W hC hB hdep => ?_
      refine .inl ⟨rfl, ?_⟩
      obtain ⟨x0, (q0 : (isV (.bool n)) x0 W), e0⟩ := hdep 1 4 (by kernel_rfl)
      obtain rfl : x0 = .bool n := q0
      obtain ⟨x1, (q1 : (isOwn1 w.heap.size 140 N (ucs r)) x1 W), e1⟩ := hdep 4 7 (by kernel_rfl)
      obtain ⟨uo1, uc1, rfl⟩ := own_dslice q1
      clear hB hdep
      refine goes_value (v := .agg #[.bool n, .slice uo1 N uc1]) ?_ hC ⟨_, _, rfl, q1⟩
      simp only [Array.getD_eq_getD_getElem?] at e0 e1
      simp only [execOp]
      go_simp
    refine AllOps.cons ?_ ?_
    · refine OpL.write (by kernel_rfl) fun vals ab W hC hB hdep => ⟨rfl, ?_⟩
      obtain ⟨(q0 : (isNum n w.heap.size N (ucs r)) (vals 5) W), e0⟩ := hdep 5 8 (by kernel_rfl)
      generalize vals 5 = x0 at *
      obtain ⟨uo0, uc0, rfl, hu0⟩ := q0
      have b0 : ab.tmps.getD 2 undef = .pointer (some ⟨w.heap.size + 1, 0, none⟩) := hB.off 2 (by kernel_rfl)
      clear hB hdep
      obtain ⟨c0, c1, z0, z1⟩ := rowp2d ((hC.block _ HLT.out.2).trans HZ.out)
      refine writes_skip (w1 := (W.setCell ⟨w.heap.size + 1, 0, none⟩ (.bool n)).setCell ⟨w.heap.size + 1, 1, none⟩ (.slice uo0 N uc0)) ?_ ⟨_, _, rfl, rfl⟩
      simp only [execOp, Act.eval, e0, b0]
      go_simp
    exact trivial
  · intro vals aa W0 w8 hC hFin hB hall
    obtain ⟨(k0 : (isV (.pointer (some ⟨w.heap.size, 0, none⟩))) (vals 0) W0), e0⟩ := hall 0 _ rfl (by decide)
    obtain ⟨(k1 : (isV (.bool n)) (vals 1) W0), e1⟩ := hall 1 _ rfl (by decide)
    obtain ⟨(k2 : (isV (.pointer (some ⟨w.heap.size, 1, none⟩))) (vals 2) W0), e2⟩ := hall 2 _ rfl (by decide)
    obtain ⟨(k3 : (isV (.slice lo N lc)) (vals 3) W0), e3⟩ := hall 3 _ rfl (by decide)
    obtain ⟨(k4 : (isOwn1 w.heap.size 140 N (ucs r)) (vals 4) W0), e4⟩ := hall 4 _ rfl (by decide)
    obtain ⟨(k5 : (isNum n w.heap.size N (ucs r)) (vals 5) W0), e5⟩ := hall 5 _ rfl (by decide)
    have hv : ∀ pq ∈ [((3 : Nat), (.pointer (some ⟨w.heap.size, 0, none⟩) : Value)), ((4 : Nat), (.bool n : Value)), ((5 : Nat), (.pointer (some ⟨w.heap.size, 1, none⟩) : Value)), ((6 : Nat), (.slice lo N lc : Value)), ((7 : Nat), (vals 4 : Value)), ((8 : Nat), (vals 5 : Value))], aa.tmps.getD pq.1 undef = pq.2 := by
      intro pq hp
      simp only [List.mem_cons, List.not_mem_nil, or_false] at hp
      rcases hp with rfl | rfl | rfl | rfl | rfl | rfl
      · exact (e0 _ rfl).trans k0
      · exact (e1 _ rfl).trans k1
      · exact (e2 _ rfl).trans k2
      · exact (e3 _ rfl).trans k3
      · exact e4 _ rfl
      · exact e5 _ rfl
    have hact := act_fold _ hB hv (by kernel_rfl)
    subst hact
    clear hv hall hB e0 e1 e2 e3 e4 e5
    refine (‹∀ (a : Act) (w : World), Code.wp Tryz.prog _ _ a w → _›) _ _ ?_
    simp only [List.foldl, List.setIfInBounds_toArray, List.set_cons_succ, List.set_cons_zero]
    obtain ⟨a, b, hab, rfl⟩ := hFin
    obtain ⟨o, c, hoc, how⟩ := k5
    rw [hab] at hoc
    simp only [Value.agg.injEq, Array.mk.injEq, List.cons.injEq, and_true] at hoc
    obtain ⟨rfl, rfl⟩ := hoc
    have hz8 := (hC.block _ HLT.out.2).trans HZ.out
    have hp := putp2d hz8 (.bool n) (.slice o N c)
    have hbel : Below w.heap.size w ((W0.setCell ⟨w.heap.size + 1, 0, none⟩ (.bool n)).setCell ⟨w.heap.size + 1, 1, none⟩ (.slice o N c)) := ((HB1.out.trans (hC.mono HB1.out.size)).setCell (by simp) _).setCell (by simp) _
    have how2 : ((W0.setCell ⟨w.heap.size + 1, 0, none⟩ (.bool n)).setCell ⟨w.heap.size + 1, 1, none⟩ (.slice o N c)).ownsRow w.heap.size 140 1 (.slice o N c) N (ucs r) :=
      ownsRow_keep how (((Keeps.refl (fun b => b ≠ w.heap.size + 1) W0).set (p := ⟨w.heap.size + 1, 0, none⟩) (fun h => h rfl) _).set (p := ⟨w.heap.size + 1, 1, none⟩) (fun h => h rfl) _) fun b hb => own_farT how hz8 (by decide) b hb
    obtain ⟨p0, p1, _, _⟩ := rowp2d hp
    have HP := Lib.hid (And.intro hbel how2)
    clear hz8 hp hbel how2 hC how
    go_wp2_with fail
    refine bodyPost_ret (v := .agg #[.bool n, .slice o N c]) (by simp [results, Tryz.results97, go_sem, p0, p1]) rfl ?_
    exact ⟨_, _, rfl, HP.out.2, HP.out.1⟩
end Go.Proofs.YtbfcbicbeagjkaaGreatDoor
namespace Go.Proofs.YtbfcbicbeagjkaaGreatDoor
open Go.RowKit

end Go.Proofs.YtbfcbicbeagjkaaGreatDoor
namespace Go.Proofs.YtbfcbicbeagjkaaGreatDoor
open Go.RowKit

/-- A datum without where it stands. -/
def Dm.strip : Dm → Dm
  | .mk k t n r l _ => .mk k t n r (l.attach.map fun ⟨d, _⟩ => Dm.strip d) 0
open Classical in
/-- The same, wherever they stand? -/
noncomputable def sameA (a b : Dm) : Bool := decide (a.strip = b.strip)
end Go.Proofs.YtbfcbicbeagjkaaGreatDoor
namespace Go.Proofs.YtbfcbicbeagjkaaGreatDoor
open Go.RowKit

end Go.Proofs.YtbfcbicbeagjkaaGreatDoor
namespace Go.Proofs.YtbfcbicbeagjkaaGreatDoor
open Go.RowKit

/-- With another wrap. -/
def reS (m s : List Int) : Sx → Sx
  | .mk k t n r l a _ _ => .mk k t n r l a m s
theorem reS_dtm (m s : List Int) (D : Sx) : dtm (reS m s D) = dtm D := by cases D; unfold reS; rw [dtm_mk, dtm_mk]
/-- The piece with a wrap around. -/
def pshS (m s : List Int) (D : Sx) : Sx := reS (wjA m s D.m D.s).1 (wjA m s D.m D.s).2.1 D
/-- Opened. -/
def opnS (D : Sx) : Sx := if 1 ≤ D.k ∧ D.k ≤ 3 then .mk D.k D.t D.n D.r (D.l.map (pshS D.m D.s)) D.a [] [] else D
theorem opnS_yes {k : Int} {t : ByteArray} {n : Bool} {r : List Nat} {l : List Sx} {a : Int} {dm ds : List Int} (hk : 1 ≤ k ∧ k ≤ 3) : opnS (.mk k t n r l a dm ds) = .mk k t n r (l.map (pshS dm ds)) a [] [] := if_pos hk
theorem opnS_no {D : Sx} (hk : ¬ (1 ≤ D.k ∧ D.k ≤ 3)) : opnS D = D := if_neg hk
theorem pshS_dtm (m s : List Int) (D : Sx) : dtm (pshS m s D) = dtm D := reS_dtm _ _ D
theorem okD_kids {f : Nat} {k : Int} {t : ByteArray} {n : Bool} {r : List Nat} {l : List Sx} {a : Int} {m s : List Int} (h : okD (f + 1) (dtm (.mk k t n r l a m s)) = true) : (∀ x ∈ l, okD f (dtm x) = true) ∧ (k = 4 → l = []) := by
  rw [dtm_mk] at h
  refine ⟨fun x hx => okD_all h _ (List.mem_map_of_mem hx), fun hk => ?_⟩
  subst hk
  rw [okD_leaf (by omega) (by omega), Bool.and_eq_true] at h
  have := of_decide_eq_true h.2
  rw [List.length_map] at this
  exact List.eq_nil_of_length_eq_zero this
theorem sameS_refl : ∀ {f : Nat} {D : Sx}, dpB f D = true → sameS f D D = true := by
  intro f
  induction f with
  | zero => intro D h; cases h
  | succ f ih =>
    intro D h
    obtain ⟨k, t, n, r, l, a, m, s⟩ := D
    unfold dpB at h
    exact sameS_iff.2 ⟨rfl, rfl, ⟨rfl, rfl⟩, rfl, rfl, rfl, fun j hj _ => ih (List.all_eq_true.1 h _ (List.getElem_mem hj))⟩
theorem light_dp : ∀ {f : Nat} {D : Sx}, lightS f D = true → dpB f D = true := by
  intro f
  induction f with
  | zero => intro D h; cases h
  | succ f ih =>
    intro D h
    obtain ⟨_, _, _, hl⟩ := lightS_mem h
    exact dpB_yes fun j hj => ih (hl j hj)
theorem sndX_parts {D : Sx} (h : sndX D = true) : okD 64 (dtm D) = true ∧ fltB [] [] D = true := by
  rw [sndX_flt] at h
  simp only [Bool.and_eq_true] at h
  have h1 := h.1
  unfold sndD at h1
  rw [Bool.and_eq_true] at h1
  exact ⟨h1.1, h.2.2⟩
theorem sndX_of {D E : Sx} (h : sndX D = true) (hd : dtm E = dtm D) (hf : fltB [] [] E = true) : sndX E = true := by
  rw [sndX_flt] at h ⊢
  rw [hd]
  simp only [Bool.and_eq_true] at h ⊢
  exact ⟨h.1, h.2.1, hf⟩
end Go.Proofs.YtbfcbicbeagjkaaGreatDoor
