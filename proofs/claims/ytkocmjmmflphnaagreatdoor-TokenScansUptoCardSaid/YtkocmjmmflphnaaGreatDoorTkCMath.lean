/- How the document's answer goes through a text, and that it comes to the same words. No walk here. | Rows of characters that the call owns, and append onto them. | ref.at, until, Str, text | ref.sign | ref.text -/
import Derived.Test.YtkocmjmmflphnaaGreatDoorTkAns
import Derived.Deep.AppendLies
import Derived.Test.YtkocmjmmflphnaaGreatDoorUREnc
import Derived.Test.YtkocmjmmflphnaaGreatDoorRNames
namespace Go.Proofs.YtkocmjmmflphnaaGreatDoor
open Go.RowKit

/-- The character at a place, or -1. -/
def atZ (cs : List Nat) (i : Nat) : Int := if i < cs.length then ((limb cs i : Nat) : Int) else -1
theorem atZ_in {cs : List Nat} {i : Nat} (h : i < cs.length) : atZ cs i = ((limb cs i : Nat) : Int) := if_pos h
theorem atZ_out {cs : List Nat} {i : Nat} (h : cs.length ≤ i) : atZ cs i = -1 := if_neg (by omega)
theorem atZ_eq {cs : List Nat} {i a : Nat} : atZ cs i = (a : Int) ↔ i < cs.length ∧ limb cs i = a := by
  unfold atZ
  split
  · rename_i h; constructor
    · intro e; exact ⟨h, by omega⟩
    · rintro ⟨_, e⟩; omega
  · rename_i h; constructor
    · intro e; omega
    · rintro ⟨e, _⟩; omega

/-- Where the ref's loop over an escape's digits stops. -/
def kR (cs : List Nat) (i : Nat) : Nat := min (til semN cs i) (i + 7)
theorem enc_ge' (l : List Nat) : l.length ≤ (encL l).length := by
  induction l with
  | nil => simp
  | cons c l ih =>
    have e : encL (c :: l) = encN c ++ encL l := by simp [encL]
    have := (blen_le c).1
    rw [e, List.length_append, encN_len, List.length_cons]
    omega
theorem named_x {bs : List Nat} (h : bs ≠ []) : namedA (120 :: bs) = hexA bs := by
  have hd : dc (120 :: bs) 0 = (120, 1) := dc_one (bs := 120 :: bs) (i := 0) (by show (120 : Nat) < 128; decide)
  have hp := List.length_pos_iff.2 h
  have := namedA_hex (bs := 120 :: bs) (wordA_none fun j hj hw => by
    have h0 : limb (wName j) 0 = 120 := by rw [hw]; rfl
    have : j = 0 ∨ j = 1 ∨ j = 2 ∨ j = 3 ∨ j = 4 ∨ j = 5 := by omega
    rcases this with rfl | rfl | rfl | rfl | rfl | rfl <;> revert h0 <;> decide) (by rw [hd]; rintro ⟨_, _, e⟩; have e2 : 1 = bs.length + 1 := e; omega) (by simp) rfl
  rw [this]; rfl
/-- The escape by a number, as the document's answer reads it. -/
def numR (cs : List Nat) (i : Nat) : Option (Nat × Nat) := if atZ cs (kR cs i) = 59 then (hexA (encL (cutN cs i (kR cs i)))).map fun c => (c, kR cs i + 1) else none
theorem num_same {cs : List Nat} {i : Nat} (hi : i ≤ cs.length) : numA cs i = numR cs i := by
  have hg := @til_ge' semN cs i
  have hle := @til_le semN cs i hi
  unfold numA numR kR
  rcases Nat.lt_or_ge (til semN cs i) cs.length with h | h
  · have h59 : limb cs (til semN cs i) = 59 := by have h0 : semN (limb cs (til semN cs i)) = true := til_at h; exact beq_iff_eq.1 h0
    rw [if_pos h]
    rcases Nat.lt_or_ge (i + 7) (til semN cs i) with h7 | h7
    · rw [Nat.min_eq_right (by omega)]
      have hno := til_no (p := semN) (cs := cs) (i := i) (j := i + 7) (by omega) h7
      rw [if_neg (by omega), if_neg (by
        rw [atZ_in (by omega)]
        unfold semN at hno
        simp at hno
        omega)]
      have hl : 7 < (cutN cs i (til semN cs i)).length := by rw [cutN_len hg (by omega)]; omega
      have hl2 := enc_ge' (cutN cs i (til semN cs i))
      rw [named_x (by intro e; rw [e] at hl2; have h0 : (cutN cs i (til semN cs i)).length ≤ 0 := hl2; omega), hexA_out (ds := encL (cutN cs i (til semN cs i))) (.inr (by omega))]
      rfl
    · rw [Nat.min_eq_left (by omega)]
      have hz59 : atZ cs (til semN cs i) = 59 := by rw [atZ_in h, h59]; rfl
      by_cases he : til semN cs i = i
      · rw [if_pos he, if_pos hz59, he, cutN_nil]
        rw [show hexA (encL []) = none from hexA_out (.inl (by decide))]
        rfl
      · rw [if_neg he, if_pos hz59]
        have hl : 0 < (cutN cs i (til semN cs i)).length := by rw [cutN_len hg (by omega)]; omega
        have hl2 := enc_ge' (cutN cs i (til semN cs i))
        rw [named_x (by intro e; rw [e] at hl2; have h0 : (cutN cs i (til semN cs i)).length ≤ 0 := hl2; omega)]
  · rw [if_neg (by omega)]
    have hz : atZ cs (min (til semN cs i) (i + 7)) ≠ 59 := by
      rcases Nat.lt_or_ge (i + 7) cs.length with h7 | h7
      · rw [Nat.min_eq_right (by omega), atZ_in h7]
        have hno := til_no (p := semN) (cs := cs) (i := i) (j := i + 7) (by omega) (by omega)
        unfold semN at hno
        simp at hno
        omega
      · rw [atZ_out (by omega)]; decide
    rw [if_neg hz]

/-- A string as the document's answer reads it: without a bound. -/
def txtA (cs : List Nat) (i : Nat) (acc : List Nat) : Option (List Nat × Nat) :=
  if i < cs.length then
    if limb cs i = 34 then some (acc, i + 1)
    else match nxA cs i with
      | none => none
      | some (c, j) => if i < j then txtA cs j (acc ++ [c]) else none
  else none
termination_by cs.length - i
decreasing_by omega
theorem txtA_out {cs : List Nat} {i : Nat} {acc : List Nat} (h : cs.length ≤ i) : txtA cs i acc = none := by rw [txtA, if_neg (by omega)]
theorem txtA_quote {cs : List Nat} {i : Nat} {acc : List Nat} (h : i < cs.length) (h1 : limb cs i = 34) : txtA cs i acc = some (acc, i + 1) := by rw [txtA, if_pos h, if_pos h1]
theorem txtA_bad {cs : List Nat} {i : Nat} {acc : List Nat} (h : i < cs.length) (h1 : limb cs i ≠ 34) (h2 : nxA cs i = none) : txtA cs i acc = none := by rw [txtA, if_pos h, if_neg h1, h2]
theorem txtA_step {cs : List Nat} {i c j : Nat} {acc : List Nat} (h : i < cs.length) (h1 : limb cs i ≠ 34) (h2 : nxA cs i = some (c, j)) : txtA cs i acc = txtA cs j (acc ++ [c]) := by
  have hg := (nxA_gt h h2).1
  rw [txtA, if_pos h, if_neg h1, h2]
  exact if_pos hg
theorem txtA_len {cs : List Nat} : ∀ (n i : Nat) (acc l : List Nat) (j : Nat), cs.length - i = n → txtA cs i acc = some (l, j) → acc.length ≤ l.length ∧ i < j ∧ j ≤ cs.length := by
  intro n
  induction n using Nat.strongRecOn with
  | ind n ih =>
    intro i acc l j hn h
    rcases Nat.lt_or_ge i cs.length with hl | hl
    · by_cases h1 : limb cs i = 34
      · rw [txtA_quote hl h1] at h
        injection h with h; injection h with h2 h3
        subst h2
        omega
      · cases h2 : nxA cs i with
        | none => rw [txtA_bad hl h1 h2] at h; cases h
        | some p =>
          obtain ⟨c, k⟩ := p
          have hg := nxA_gt hl h2
          rw [txtA_step hl h1 h2] at h
          have := ih (cs.length - k) (by omega) k _ _ _ rfl h
          simp only [List.length_append, List.length_singleton] at this
          omega
    · rw [txtA_out hl] at h; cases h
/-- The bound at the end. -/
def capA (o : Option (List Nat × Nat)) : Option (List Nat × Nat) := o.bind fun p => if p.1.length ≤ 4096 then some p else none
theorem quo_txt {cs : List Nat} : ∀ (n i : Nat) (acc : List Nat), cs.length - i = n → acc.length ≤ 4096 → quoA cs i acc = capA (txtA cs i acc) := by
  intro n
  induction n using Nat.strongRecOn with
  | ind n ih =>
    intro i acc hn ha
    rcases Nat.lt_or_ge i cs.length with hl | hl
    · by_cases h1 : limb cs i = 34
      · rw [quoA_quote hl h1, txtA_quote hl h1]
        show _ = if acc.length ≤ 4096 then _ else _
        rw [if_pos ha]
      · cases h2 : nxA cs i with
        | none => rw [quoA_bad hl h1 h2, txtA_bad hl h1 h2]; rfl
        | some p =>
          obtain ⟨c, k⟩ := p
          have hg := nxA_gt hl h2
          rw [txtA_step hl h1 h2]
          by_cases h3 : acc.length = 4096
          · rw [quoA_long hl h1 h2 h3]
            cases h4 : txtA cs k (acc ++ [c]) with
            | none => rfl
            | some p =>
              obtain ⟨l, j⟩ := p
              have := (txtA_len _ _ _ _ _ rfl h4).1
              simp only [List.length_append, List.length_singleton] at this
              show none = if l.length ≤ 4096 then some (l, j) else none
              rw [if_neg (by omega)]
          · rw [quoA_step hl h1 h2 h3]
            exact ih (cs.length - k) (by omega) k _ rfl (by simp; omega)
    · rw [quoA_out hl, txtA_out hl]; rfl

theorem pfx_two {a b : Nat} {cs : List Nat} {i : Nat} (hi : i < cs.length) : pfx [a, b] cs i = decide (limb cs i = a ∧ atZ cs (i + 1) = (b : Int)) := by
  rw [Bool.eq_iff_iff, pfx_iff, decide_eq_true_iff, atZ_eq]
  constructor
  · rintro (⟨h0, h⟩ | h)
    · simp only [List.length_cons, List.length_nil] at h0 h
      exact ⟨h 0 (by omega), by omega, h 1 (by omega)⟩
    · simp at h
  · rintro ⟨h1, h2, h3⟩
    exact .inl ⟨by simp; omega, fun j hj => by match j, hj with | 0, _ => exact h1 | 1, _ => exact h3⟩
theorem pfx_three {a b c : Nat} {cs : List Nat} {i : Nat} (hi : i < cs.length) : pfx [a, b, c] cs i = decide (limb cs i = a ∧ atZ cs (i + 1) = (b : Int) ∧ atZ cs (i + 2) = (c : Int)) := by
  rw [Bool.eq_iff_iff, pfx_iff, decide_eq_true_iff, atZ_eq, atZ_eq]
  constructor
  · rintro (⟨h0, h⟩ | h)
    · simp only [List.length_cons, List.length_nil] at h0 h
      exact ⟨h 0 (by omega), ⟨by omega, h 1 (by omega)⟩, by omega, h 2 (by omega)⟩
    · simp at h
  · rintro ⟨h1, ⟨h2, h3⟩, h4, h5⟩
    exact .inl ⟨by simp; omega, fun j hj => by match j, hj with | 0, _ => exact h1 | 1, _ => exact h3 | 2, _ => exact h5⟩
/-- Which mark three characters are. -/
def mkV (c : Nat) (d e : Int) : Option Nat :=
  if c = 40 then some 0 else if c = 41 then some 1 else if c = 39 then some 2 else if c = 96 then some 3
  else if c = 44 ∧ d = 64 then some 4 else if c = 44 then some 5 else if c = 35 ∧ d = 40 then some 6 else if c = 35 ∧ d = 59 then some 7
  else if c = 35 ∧ d = 39 then some 8 else if c = 35 ∧ d = 96 then some 9 else if c = 35 ∧ d = 44 ∧ e = 64 then some 10 else if c = 35 ∧ d = 44 then some 11 else none
theorem mark_val {cs : List Nat} {i : Nat} (hi : i < cs.length) : markA cs i = mkV (limb cs i) (atZ cs (i + 1)) (atZ cs (i + 2)) := by
  unfold markA mkV
  simp only [List.range, List.range.loop, List.find?_cons, mText, mtab, List.getD_cons_zero, List.getD_cons_succ, pfx_one hi, pfx_two hi, pfx_three hi, List.find?_nil]
  generalize limb cs i = c
  generalize atZ cs (i + 1) = d
  generalize atZ cs (i + 2) = e
  by_cases h40 : c = 40
  · subst h40; simp
  by_cases h41 : c = 41
  · subst h41; simp
  by_cases h39 : c = 39
  · subst h39; simp
  by_cases h96 : c = 96
  · subst h96; simp
  by_cases h44 : c = 44
  · subst h44
    by_cases hd : d = 64
    · subst hd; simp
    · simp [hd]
  by_cases h35 : c = 35
  · subst h35
    by_cases d1 : d = 40
    · subst d1; simp
    by_cases d2 : d = 59
    · subst d2; simp
    by_cases d3 : d = 39
    · subst d3; simp
    by_cases d4 : d = 96
    · subst d4; simp
    by_cases d5 : d = 44
    · subst d5
      by_cases he : e = 64
      · subst he; simp
      · simp [he]
    · simp [d1, d2, d3, d4, d5]
  · simp [h40, h41, h39, h96, h44, h35]
/-- What the document's answer calls a sign: kind, name, length. -/
def sgR (c : Nat) (d e : Int) : Nat × List Nat × Nat := match mkV c d e with
  | some k => (mKind k, mName k, (mText k).length)
  | none => if c = 46 ∧ (d < 0 ∨ enB d = true) then (4, [], 1) else (0, [], 0)
/-- A dot alone. -/
theorem wrd_dot {cs : List Nat} {i : Nat} (hi : i < cs.length) (hc : limb cs i = 46) (hd : atZ cs (i + 1) < 0 ∨ enB (atZ cs (i + 1)) = true) : wrdA cs i = some (dotW i, i + 1) := by
  have hm : markA cs i = none := by
    rw [mark_val hi, hc]
    unfold mkV
    simp
  have hp : pfx [35, 92] cs i = false := by rw [pfx_two hi, hc]; simp
  have ht : til enN cs i = i + 1 := by
    refine til_is _ i (i + 1) rfl (by omega) (by omega) (fun j h1 h2 => ?_) (fun h => ?_)
    · have : j = i := by omega
      subst this
      rw [hc]; decide
    · rw [atZ_in h] at hd
      rcases hd with hd | hd
      · omega
      · exact hd
  have hcut : cutN cs i (i + 1) = [46] := by
    apply List.ext_getElem
    · rw [cutN_len (by omega) (by omega)]; simp
    · intro n h1 h2
      simp at h2
      subst h2
      rw [← limb_lt, cutN_limb (by omega), Nat.add_zero, hc]; rfl
  rw [wrdA_atm hm (by rw [hc]; decide) hp]
  unfold atmW
  rw [ht, hcut, if_pos (by decide)]
/-- What is no sign, no string, no character, is what its characters are by themselves. -/
theorem wrd_leaf {cs : List Nat} {i : Nat} (hi : i < cs.length) (hm : markA cs i = none) (h1 : limb cs i ≠ 34) (h2 : pfx [35, 92] cs i = false) (hd : ¬ (limb cs i = 46 ∧ (atZ cs (i + 1) < 0 ∨ enB (atZ cs (i + 1)) = true))) :
    wrdA cs i = (atmA (encL (cutN cs i (til enN cs i)))).map fun d => (leafW d i, til enN cs i) := by
  rw [wrdA_atm hm h1 h2]
  unfold atmW
  rw [if_neg]
  intro he
  have hg := @til_ge' enN cs i
  have hle := @til_le enN cs i (by omega)
  have hl := enc_ge' (cutN cs i (til enN cs i))
  rw [he, cutN_len hg hle] at hl
  simp at hl
  have hne : til enN cs i ≠ i := by intro e; rw [e, cutN_nil] at he; simp [encL] at he
  have ht : til enN cs i = i + 1 := by omega
  have hcut : cutN cs i (i + 1) = [limb cs i] := by
    apply List.ext_getElem
    · rw [cutN_len (by omega) (by omega)]; simp
    · intro n h1 h2
      simp at h2
      subst h2
      rw [← limb_lt, cutN_limb (by omega), Nat.add_zero]; rfl
  rw [ht, hcut] at he
  have hc : limb cs i = 46 := by
    have e : encL [limb cs i] = encN (limb cs i) := by simp [encL]
    rw [e] at he
    unfold encN at he
    (repeat' split at he) <;> simp at he <;> omega
  refine hd ⟨hc, ?_⟩
  rcases Nat.lt_or_ge (i + 1) cs.length with h | h
  · right
    have h0 : enN (limb cs (til enN cs i)) = true := til_at (by omega)
    rw [ht] at h0
    rw [atZ_in h]
    exact h0
  · left; rw [atZ_out h]; decide
theorem wds_skp {cs : List Nat} {i j : Nat} {acc : List Wd} (h : skp cs i = skp cs j) : wdsA cs i acc = wdsA cs j acc := by
  rcases Nat.lt_or_ge (skp cs i) cs.length with hs | hs
  · cases hw : wrdA cs (skp cs i) with
    | none => rw [wdsA_bad (i := i) hs hw, wdsA_bad (i := j) (by rw [← h]; exact hs) (by rw [← h]; exact hw), h]
    | some p =>
      obtain ⟨x, k⟩ := p
      rw [wdsA_step (i := i) hs hw, wdsA_step (i := j) (x := x) (j := k) (by rw [← h]; exact hs) (by rw [← h]; exact hw)]
  · rw [wdsA_end (i := i) hs, wdsA_end (i := j) (by rw [← h]; exact hs)]
end Go.Proofs.YtkocmjmmflphnaaGreatDoor
namespace Go.Proofs.YtkocmjmmflphnaaGreatDoor
open Go.RowKit

/-- Characters as cells. -/
def nc (cs : List Nat) : List Value := intCells (cs.map fun (c : Nat) => (c : Int))
theorem nc_len (cs : List Nat) : (nc cs).length = cs.length := by simp [nc, intCells]
theorem nc_app (a b : List Nat) : nc (a ++ b) = nc a ++ nc b := by simp [nc, intCells]
theorem nc_one (cs : List Nat) : ∀ u ∈ nc cs, u.oneCell' = true := intCells_one _
theorem nc_at {cs : List Nat} {j : Nat} {u : Value} (h : (nc cs)[j]? = some u) : j < cs.length ∧ u = .int .i64 ((limb cs j : Nat) : Int) := by
  have hj : j < cs.length := by rw [← nc_len cs]; exact (List.getElem?_eq_some_iff.1 h).1
  refine ⟨hj, ?_⟩
  rw [limb_lt hj]
  simp [nc, intCells, hj] at h
  exact h.symm
theorem run_append_nc {P : Program} (w : World) (base : Nat) (t ty e : TypeId) (i : TypeInfo) (z : Value) (ht : P.underlying t = some (.slice e)) (hi : P.info? e = some i) (hz : i.zero = some z) (hsize : i.size = 1) (hby : i.bytes = 8) (hzs : z.cells.size = 1)
    (v : Value) (a : List Nat) (hown : w.ownsRow base e 1 v a.length (nc a)) (ad : Addr) (c : Nat) (b : List Nat) (hnews : ∀ j u, (nc b)[j]? = some u → w.cell? (ad.add j) = some u) (hle : a.length + b.length ≤ 10000000) (hbase : base ≤ w.heap.size) :
    ∃ v' w', (Builtin.append_ #[t, t] ty #[v, .slice (some ad) b.length c]).run P w = .ok v' w' ∧ w'.ownsRow base e 1 v' (a ++ b).length (nc (a ++ b)) ∧ w.grownBy w' v.ownBlock := by
  obtain ⟨v', w', hr, h2, h3, _, _⟩ := run_append_own_at (P := P) w base t ty e i z 1 8 ht hi hz hsize hby hzs (by decide) v a.length (nc a) hown ad b.length c (nc b) (by rw [nc_len]; omega) hnews (nc_one b) (by unfold maxLen; omega) (by omega) hbase
  exact ⟨v', w', hr, by rw [nc_app, List.length_append]; exact h2, h3⟩
theorem wp_append_nc {P : Program} (w : World) {o : Oper} {act : Act} {K : Act → World → Prop} {Q : Exit → Act → World → Prop} (s x : Operand) (t : TypeId)
    (ho : o.op = .call { callee := .builtin .append, args := #[s, x], argTypes := #[t, t] })
    (base : Nat) (e : TypeId) (i : TypeInfo) (z : Value) (ht : P.underlying t = some (.slice e)) (hi : P.info? e = some i) (hz : i.zero = some z) (hsize : i.size = 1) (hby : i.bytes = 8) (hzs : z.cells.size = 1)
    (v : Value) (a : List Nat) (hs : act.eval s = v) (hown : w.ownsRow base e 1 v a.length (nc a)) (ad : Addr) (c : Nat) (b : List Nat) (hx : act.eval x = .slice (some ad) b.length c) (hnews : ∀ j u, (nc b)[j]? = some u → w.cell? (ad.add j) = some u) (hle : a.length + b.length ≤ 10000000) (hbase : base ≤ w.heap.size)
    (h : ∀ v' w', w'.ownsRow base e 1 v' (a ++ b).length (nc (a ++ b)) → w.grownBy w' v.ownBlock → K (act.put o.dst v') w') : o.wp P act w K Q := by
  obtain ⟨v', w', hr, h2, h3⟩ := run_append_nc (P := P) w base t o.type e i z ht hi hz hsize hby hzs v a hown ad c b hnews hle hbase
  unfold Oper.wp execOp
  simp only [ho, resolve, invoke, builtin, Sem.run_bind, Sem.run_pure, Result.andThen_ok, List.map_toArray, List.map_cons, List.map_nil, hs, hx, hr]
  exact h v' w' h2 h3
theorem wpList_append_nc {P : Program} {w : World} {ops : Array Oper} {rest : List Oper} {o : Oper} {act : Act} {Q : Exit → Act → World → Prop} (hgd : o.guard = none) (s x : Operand) (t : TypeId)
    (ho : o.op = .call { callee := .builtin .append, args := #[s, x], argTypes := #[t, t] })
    (base : Nat) (e : TypeId) (i : TypeInfo) (z : Value) (ht : P.underlying t = some (.slice e)) (hi : P.info? e = some i) (hz : i.zero = some z) (hsize : i.size = 1) (hby : i.bytes = 8) (hzs : z.cells.size = 1)
    (v : Value) (a : List Nat) (hs : act.eval s = v) (hown : w.ownsRow base e 1 v a.length (nc a)) (sv : Value) (b : List Nat) (hx : act.eval x = sv) (hsl : SlV w sv (nc b)) (hle : a.length + b.length ≤ 10000000) (hbase : base ≤ w.heap.size)
    (h : ∀ v' w', w'.ownsRow base e 1 v' (a ++ b).length (nc (a ++ b)) → w.grownBy w' v.ownBlock → wpList P ops Q rest (act.put o.dst v') w') : wpList P ops Q (o :: rest) act w :=
  wpList_append_slv hgd s x t ho base e i z 8 ht hi hz hsize hby hzs v a.length (nc a) hs hown sv (nc b) (nc_one b) hx hsl (by rw [nc_len]; unfold maxLen; omega) (by rw [nc_len]; omega) hbase fun v' w' h1 h2 => h v' w' (by rw [nc_app, List.length_append]; rw [nc_len] at h1; exact h1) h2
theorem step_append_nc {P : Program} {w : World} {ops : Array Oper} {o : Oper} {act : Act} {K : Act → World → Prop} {Q : Exit → Act → World → Prop} {E : Prop} (hgd : o.guard = none) (s x : Operand) (t : TypeId)
    (ho : o.op = .call { callee := .builtin .append, args := #[s, x], argTypes := #[t, t] })
    (base : Nat) (e : TypeId) (i : TypeInfo) (z : Value) (ht : P.underlying t = some (.slice e)) (hi : P.info? e = some i) (hz : i.zero = some z) (hsize : i.size = 1) (hby : i.bytes = 8) (hzs : z.cells.size = 1)
    (v : Value) (a : List Nat) (hs : act.eval s = v) (hown : w.ownsRow base e 1 v a.length (nc a)) (ad : Addr) (c : Nat) (b : List Nat) (hx : act.eval x = .slice (some ad) b.length c) (hnews : ∀ j u, (nc b)[j]? = some u → w.cell? (ad.add j) = some u) (hle : a.length + b.length ≤ 10000000) (hbase : base ≤ w.heap.size)
    (h : ∀ v' w', w'.ownsRow base e 1 v' (a ++ b).length (nc (a ++ b)) → w.grownBy w' v.ownBlock → K (act.put o.dst v') w') : if Region.wanted o (yielded ops act.tmps) = true then Oper.wp P o act w K Q else E := by
  have hw : Region.wanted o (yielded ops act.tmps) = true := by simp [Region.wanted, hgd]
  rw [if_pos hw]
  exact wp_append_nc w s x t ho base e i z ht hi hz hsize hby hzs v a hs hown ad c b hx hnews hle hbase h
theorem own_slice {w : World} {base : Nat} {e : TypeId} {v : Value} {n : Nat} {xs : List Value} (h : w.ownsRow base e 1 v n xs) : ∃ ao cap, v = .slice ao n cap := by
  rcases h.2 with ⟨rfl, rfl⟩ | ⟨g, cap, cur, rfl, _⟩
  · exact ⟨_, _, rfl⟩
  · exact ⟨_, _, rfl⟩
end Go.Proofs.YtkocmjmmflphnaaGreatDoor
namespace Go.Proofs.YtkocmjmmflphnaaGreatDoor
open Go.RowKit

/-- A text's slice, opened. -/
theorem sl_open {w : World} {ao : Option Addr} {cap : Nat} {cs : List Nat} (h : Sl .i64 w (.slice ao cs.length cap) cs) {i : Nat} (hi : i < cs.length) : ∃ b off, ao = some ⟨b, off, none⟩ ∧ b < w.heap.size ∧ ∀ j, j < cs.length → w.cell? ⟨b, off + j, none⟩ = some (.int .i64 ((limb cs j : Nat) : Int)) := by
  obtain ⟨_, ao', cap', hv, _, h⟩ := h
  simp only [Value.slice.injEq, true_and] at hv
  obtain ⟨rfl, rfl⟩ := hv
  rcases h with ⟨h, _⟩ | ⟨b, off, h1, h2, h3⟩
  · rw [h] at hi; simp at hi
  · exact ⟨b, off, h1, h2, h3⟩
theorem sl_cap {w : World} {ao : Option Addr} {cap : Nat} {cs : List Nat} (h : Sl .i64 w (.slice ao cs.length cap) cs) : cs.length ≤ cap := by
  obtain ⟨_, ao', cap', hv, h, _⟩ := h
  simp only [Value.slice.injEq, true_and] at hv
  obtain ⟨rfl, rfl⟩ := hv
  exact h

set_option maxRecDepth 100000 in
theorem rat_any (ao : Option Addr) (cap : Nat) (cs : List Nat) (i : Nat) (w : World) (hs : Sl .i64 w (.slice ao cs.length cap) cs) :
    Calls Tryz.prog 19 #[.slice ao cs.length cap, .int .i64 (i : Nat)] w fun e w' => e = .returned (.int .i64 (atZ cs i)) ∧ w = w' := by
  rcases Nat.lt_or_ge i cs.length with hi | hi
  · have ha := Lib.hid (atZ_in hi)
    have h0 : ¬ ((i : Nat) : Int) < 0 := by omega
    have h1 : ¬ ((cs.length : Nat) : Int) ≤ ((i : Nat) : Int) := by omega
    obtain ⟨b, off, rfl, _, hc⟩ := sl_open hs hi
    have hcell := hc i hi
    clear hc hs
    go_enter Tryz.func19, Tryz.ntmps19
    go_wp2_with fail
    go_ret
    exact ⟨by rw [ha.out]; rfl, rfl⟩
  · have ha := Lib.hid (atZ_out hi)
    have h0 : ¬ ((i : Nat) : Int) < 0 := by omega
    have h1 : ((cs.length : Nat) : Int) ≤ ((i : Nat) : Int) := by omega
    clear hs
    go_enter Tryz.func19, Tryz.ntmps19
    go_wp2_with fail
    go_ret
    exact ⟨by rw [ha.out]; rfl, rfl⟩

set_option maxRecDepth 100000 in
set_option maxHeartbeats 2000000 in
theorem runtil_any (ao : Option Addr) (cap : Nat) (cs : List Nat) (i : Nat) (w : World) (hs : Sl .i64 w (.slice ao cs.length cap) cs) (hl : cs.length ≤ 1000000) (hi : i ≤ 1000010) :
    Calls Tryz.prog 20 #[.slice ao cs.length cap, .int .i64 (i : Nat)] w fun e w' => e = .returned (.int .i64 ((til enN cs i : Nat) : Int)) ∧ w = w' := by
  have HS := Lib.hid hs; clear hs
  go_enter Tryz.func20, Tryz.ntmps20
  go_wp2_with fail
  go_loopw [1] (fun v wr => ∃ k : Nat, k ≤ 1000010 ∧ v = .int .i64 (k : Nat) ∧ til enN cs k = til enN cs i ∧ wr = w) (fun v _ => cs.length - (intOf v).toNat)
  case atStart => exact ⟨i, hi, rfl, rfl, rfl⟩
  case round =>
    obtain ⟨k, hk, rfl, ht, rfl⟩ := hrel
    have HT := Lib.hid ht; clear ht
    by_cases hkn : k < cs.length
    · have hki : ((k : Nat) : Int) < ((cs.length : Nat) : Int) := by omega
      obtain ⟨b, off, rfl, _, hc⟩ := sl_open HS.out hkn
      have hcell := hc k hkn
      clear hc
      go_wp2_with fail
      refine (rends_any _ _).mono ?_
      rintro e w' ⟨rfl, rfl⟩
      cases he : enB ((limb cs k : Nat) : Int)
      · have HE : Hid (enN (limb cs k) = false) := Lib.hid he
        clear he
        go_wp2_with fail
        go_roundw
        case measure => simp only [intOf]; omega
        case rel => exact ⟨k + 1, by omega, by go_num, by rw [← HT.out]; exact (til_step hkn HE.out).symm, by first | rfl | trivial⟩
      · have HE : Hid (enN (limb cs k) = true) := Lib.hid he
        clear he
        go_wp2_with fail
        go_ret
        exact ⟨by rw [← HT.out, til_stop hkn HE.out]; rfl, rfl⟩
    · have hki : ¬ ((k : Nat) : Int) < ((cs.length : Nat) : Int) := by omega
      have HE := Lib.hid (til_end (p := enN) (cs := cs) (i := k) (by omega))
      go_wp2_with fail
      go_ret
      exact ⟨by rw [← HT.out, HE.out]; rfl, rfl⟩

theorem rstr_any (v : Value) (cs : List Nat) (w : World) (hs : Sl .i64 w v cs) (hl : cs.length ≤ 1000000) (hc : ∀ c ∈ cs, scN c) :
    Calls Tryz.prog 18 #[v] w fun e w' => e = .returned (.string (mkB (encL cs))) ∧ Below w.heap.size w w' := by
  have hz := encA_nat hc
  have HS := Lib.hid (slv_nat hs)
  obtain ⟨_, ao, cap, rfl, _, _⟩ := hs
  clear hc
  go_enter Tryz.func18, Tryz.ntmps18
  go_wp2_with fail
  refine (rencode_any _ (cs.map fun (x : Nat) => (x : Int)) _ HS.out (by simpa using hl)).mono ?_
  rintro e w1 ⟨v1, rfl, hs1, hb⟩
  rw [hz] at hs1 ⊢
  have hconv := conv_sl (P := Tryz.prog) Tryz.underlying36 Tryz.underlying5 Tryz.underlying9 hs1
  obtain ⟨_, ao1, cap1, rfl, _, _⟩ := hs1
  rw [strOf_mkB'] at hconv
  clear hz
  go_wp2_with fail
  go_ret
  exact ⟨rfl, hb⟩
end Go.Proofs.YtkocmjmmflphnaaGreatDoor
namespace Go.Proofs.YtkocmjmmflphnaaGreatDoor
open Go.RowKit

set_option maxRecDepth 100000 in
set_option maxHeartbeats 4000000 in
theorem rsign_any (ao : Option Addr) (cap : Nat) (cs : List Nat) (i : Nat) (w : World) (hs : Sl .i64 w (.slice ao cs.length cap) cs) (hl : cs.length ≤ 1000000) (hi : i < cs.length) :
    Calls Tryz.prog 16 #[.slice ao cs.length cap, .int .i64 (i : Nat)] w fun e w' =>
      e = .returned (.tuple #[.int .i64 ((sgR (limb cs i) (atZ cs (i + 1)) (atZ cs (i + 2))).1 : Nat), .string (mkB (sgR (limb cs i) (atZ cs (i + 1)) (atZ cs (i + 2))).2.1), .int .i64 ((sgR (limb cs i) (atZ cs (i + 1)) (atZ cs (i + 2))).2.2 : Nat)]) ∧ w = w' := by
  have HS := Lib.hid hs; clear hs
  have h3 := rat_any ao cap cs (i + 2) w HS.out
  have h2 := rat_any ao cap cs (i + 1) w HS.out
  have h1 := rat_any ao cap cs i w HS.out
  rw [atZ_in hi] at h1
  generalize limb cs i = c at *
  generalize atZ cs (i + 1) = d at *
  generalize atZ cs (i + 2) = x at *
  go_enter Tryz.func16, Tryz.ntmps16
  go_wp2_with fail
  refine h1.mono ?_
  rintro e w1 ⟨rfl, rfl⟩
  clear h1
  go_wp2_with fail
  refine h2.mono ?_
  rintro e w1 ⟨rfl, rfl⟩
  clear h2
  by_cases c35 : c = 35
  · subst c35
    by_cases d44 : d = 44
    · subst d44
      go_wp2_with fail
      refine h3.mono ?_
      rintro e w1 ⟨rfl, rfl⟩
      clear h3
      by_cases e64 : x = 64
      · subst e64
        have HR : Hid (sgR 35 44 64 = (6, mName 10, 3)) := Lib.hid (by unfold sgR mkV; (try simp) <;> (first | done | rfl | decide))
        go_wp2_with fail
        refine bodyPost_ret (v := .tuple #[.int .i64 6, .string (mkB (mName 10)), .int .i64 3]) (by simp [results, Tryz.results16, go_sem]; rfl) rfl ?_
        exact ⟨by rw [HR.out]; rfl, rfl⟩
      · have HR : Hid (sgR 35 44 x = (6, mName 11, 2)) := Lib.hid (by unfold sgR mkV; (try simp [e64]) <;> (first | done | rfl | decide))
        have t64 : (x == 64) = false := by rw [beq_eq_false_iff_ne]; omega
        go_wp2_with fail
        refine bodyPost_ret (v := .tuple #[.int .i64 6, .string (mkB (mName 11)), .int .i64 2]) (by simp [results, Tryz.results16, go_sem]; rfl) rfl ?_
        exact ⟨by rw [HR.out]; rfl, rfl⟩
    by_cases d39 : d = 39
    · subst d39
      have HR : Hid (sgR 35 39 x = (6, mName 8, 2)) := Lib.hid (by unfold sgR mkV; (try simp) <;> (first | done | rfl | decide))
      go_wp2_with fail
      refine bodyPost_ret (v := .tuple #[.int .i64 6, .string (mkB (mName 8)), .int .i64 2]) (by simp [results, Tryz.results16, go_sem]; rfl) rfl ?_
      exact ⟨by rw [HR.out]; rfl, rfl⟩
    by_cases d96 : d = 96
    · subst d96
      have HR : Hid (sgR 35 96 x = (6, mName 9, 2)) := Lib.hid (by unfold sgR mkV; (try simp) <;> (first | done | rfl | decide))
      go_wp2_with fail
      refine bodyPost_ret (v := .tuple #[.int .i64 6, .string (mkB (mName 9)), .int .i64 2]) (by simp [results, Tryz.results16, go_sem]; rfl) rfl ?_
      exact ⟨by rw [HR.out]; rfl, rfl⟩
    by_cases d59 : d = 59
    · subst d59
      have HR : Hid (sgR 35 59 x = (5, [], 2)) := Lib.hid (by unfold sgR mkV; (try simp) <;> (first | done | rfl | decide))
      go_wp2_with fail
      refine bodyPost_ret (v := .tuple #[.int .i64 5, .string (mkB ([])), .int .i64 2]) (by simp [results, Tryz.results16, go_sem]; rfl) rfl ?_
      exact ⟨by rw [HR.out]; rfl, rfl⟩
    by_cases d40 : d = 40
    · subst d40
      have HR : Hid (sgR 35 40 x = (3, [], 2)) := Lib.hid (by unfold sgR mkV; (try simp) <;> (first | done | rfl | decide))
      go_wp2_with fail
      refine bodyPost_ret (v := .tuple #[.int .i64 3, .string (mkB ([])), .int .i64 2]) (by simp [results, Tryz.results16, go_sem]; rfl) rfl ?_
      exact ⟨by rw [HR.out]; rfl, rfl⟩
    have HR : Hid (sgR 35 d x = (0, [], 0)) := Lib.hid (by unfold sgR mkV; (try simp [d44, d39, d96, d59, d40]) <;> (first | done | rfl | decide))
    have t44 : ((d) == 44) = false := by rw [beq_eq_false_iff_ne]; omega
    have t39 : ((d) == 39) = false := by rw [beq_eq_false_iff_ne]; omega
    have t96 : ((d) == 96) = false := by rw [beq_eq_false_iff_ne]; omega
    have t59 : ((d) == 59) = false := by rw [beq_eq_false_iff_ne]; omega
    have t40 : ((d) == 40) = false := by rw [beq_eq_false_iff_ne]; omega
    clear d44 d39 d96 d59 d40
    go_wp2_with fail
    refine bodyPost_ret (v := .tuple #[.int .i64 0, .string (mkB ([])), .int .i64 0]) (by simp [results, Tryz.results16, go_sem]; rfl) rfl ?_
    exact ⟨by rw [HR.out]; rfl, rfl⟩
  by_cases c44 : c = 44
  · subst c44
    clear c35
    by_cases d64 : d = 64
    · subst d64
      have HR : Hid (sgR 44 64 x = (6, mName 4, 2)) := Lib.hid (by unfold sgR mkV; (try simp) <;> (first | done | rfl | decide))
      go_wp2_with fail
      refine bodyPost_ret (v := .tuple #[.int .i64 6, .string (mkB (mName 4)), .int .i64 2]) (by simp [results, Tryz.results16, go_sem]; rfl) rfl ?_
      exact ⟨by rw [HR.out]; rfl, rfl⟩
    have HR : Hid (sgR 44 d x = (6, mName 5, 1)) := Lib.hid (by unfold sgR mkV; (try simp [d64]) <;> (first | done | rfl | decide))
    have t64 : ((d) == 64) = false := by rw [beq_eq_false_iff_ne]; omega
    clear d64
    go_wp2_with fail
    refine bodyPost_ret (v := .tuple #[.int .i64 6, .string (mkB (mName 5)), .int .i64 1]) (by simp [results, Tryz.results16, go_sem]; rfl) rfl ?_
    exact ⟨by rw [HR.out]; rfl, rfl⟩
  by_cases c39 : c = 39
  · subst c39
    have HR : Hid (sgR 39 d x = (6, mName 2, 1)) := Lib.hid (by unfold sgR mkV; (try simp) <;> (first | done | rfl | decide))
    clear c35 c44
    go_wp2_with fail
    refine bodyPost_ret (v := .tuple #[.int .i64 6, .string (mkB (mName 2)), .int .i64 1]) (by simp [results, Tryz.results16, go_sem]; rfl) rfl ?_
    exact ⟨by rw [HR.out]; rfl, rfl⟩
  by_cases c96 : c = 96
  · subst c96
    have HR : Hid (sgR 96 d x = (6, mName 3, 1)) := Lib.hid (by unfold sgR mkV; (try simp) <;> (first | done | rfl | decide))
    clear c35 c44 c39
    go_wp2_with fail
    refine bodyPost_ret (v := .tuple #[.int .i64 6, .string (mkB (mName 3)), .int .i64 1]) (by simp [results, Tryz.results16, go_sem]; rfl) rfl ?_
    exact ⟨by rw [HR.out]; rfl, rfl⟩
  by_cases c40 : c = 40
  · subst c40
    have HR : Hid (sgR 40 d x = (1, [], 1)) := Lib.hid (by unfold sgR mkV; (try simp) <;> (first | done | rfl | decide))
    clear c35 c44 c39 c96
    go_wp2_with fail
    refine bodyPost_ret (v := .tuple #[.int .i64 1, .string (mkB ([])), .int .i64 1]) (by simp [results, Tryz.results16, go_sem]; rfl) rfl ?_
    exact ⟨by rw [HR.out]; rfl, rfl⟩
  by_cases c41 : c = 41
  · subst c41
    have HR : Hid (sgR 41 d x = (2, [], 1)) := Lib.hid (by unfold sgR mkV; (try simp) <;> (first | done | rfl | decide))
    clear c35 c44 c39 c96 c40
    go_wp2_with fail
    refine bodyPost_ret (v := .tuple #[.int .i64 2, .string (mkB ([])), .int .i64 1]) (by simp [results, Tryz.results16, go_sem]; rfl) rfl ?_
    exact ⟨by rw [HR.out]; rfl, rfl⟩
  by_cases c46 : c = 46
  · subst c46
    clear c35 c44 c39 c96 c40 c41
    by_cases d0 : d < 0
    · have HR : Hid (sgR 46 d x = (4, [], 1)) := Lib.hid (by unfold sgR mkV; (try simp [d0]) <;> (first | done | rfl | decide))
      go_wp2_with fail
      refine bodyPost_ret (v := .tuple #[.int .i64 4, .string (mkB ([])), .int .i64 1]) (by simp [results, Tryz.results16, go_sem]; rfl) rfl ?_
      exact ⟨by rw [HR.out]; rfl, rfl⟩
    cases he : enB d with
    | true =>
      have HR : Hid (sgR 46 d x = (4, [], 1)) := Lib.hid (by unfold sgR mkV; (try simp [d0, he]) <;> (first | done | rfl | decide))
      have HE := Lib.hid he
      clear he
      go_wp2_with fail
      refine (rends_any d _).mono ?_
      rintro e w1 ⟨rfl, rfl⟩
      rw [HE.out]
      go_wp2_with fail
      refine bodyPost_ret (v := .tuple #[.int .i64 4, .string (mkB ([])), .int .i64 1]) (by simp [results, Tryz.results16, go_sem]; rfl) rfl ?_
      exact ⟨by rw [HR.out]; rfl, rfl⟩
    | false =>
      have HR : Hid (sgR 46 d x = (0, [], 0)) := Lib.hid (by unfold sgR mkV; (try simp [d0, he]) <;> (first | done | rfl | decide))
      have HE := Lib.hid he
      clear he
      go_wp2_with fail
      refine (rends_any d _).mono ?_
      rintro e w1 ⟨rfl, rfl⟩
      rw [HE.out]
      go_wp2_with fail
      refine bodyPost_ret (v := .tuple #[.int .i64 0, .string (mkB ([])), .int .i64 0]) (by simp [results, Tryz.results16, go_sem]; rfl) rfl ?_
      exact ⟨by rw [HR.out]; rfl, rfl⟩
  have HR : Hid (sgR c d x = (0, [], 0)) := Lib.hid (by unfold sgR mkV; (try simp [c35, c44, c39, c96, c40, c41, c46]) <;> (first | done | rfl | decide))
  have t35 : (((c : Int)) == 35) = false := by rw [beq_eq_false_iff_ne]; omega
  have t44 : (((c : Int)) == 44) = false := by rw [beq_eq_false_iff_ne]; omega
  have t39 : (((c : Int)) == 39) = false := by rw [beq_eq_false_iff_ne]; omega
  have t96 : (((c : Int)) == 96) = false := by rw [beq_eq_false_iff_ne]; omega
  have t40 : (((c : Int)) == 40) = false := by rw [beq_eq_false_iff_ne]; omega
  have t41 : (((c : Int)) == 41) = false := by rw [beq_eq_false_iff_ne]; omega
  have t46 : (((c : Int)) == 46) = false := by rw [beq_eq_false_iff_ne]; omega
  clear c35 c44 c39 c96 c40 c41 c46
  go_wp2_with fail
  refine bodyPost_ret (v := .tuple #[.int .i64 0, .string (mkB ([])), .int .i64 0]) (by simp [results, Tryz.results16, go_sem]; rfl) rfl ?_
  exact ⟨by rw [HR.out]; rfl, rfl⟩
end Go.Proofs.YtkocmjmmflphnaaGreatDoor
namespace Go.Proofs.YtkocmjmmflphnaaGreatDoor
open Go.RowKit

theorem hexA_sc {bs : List Nat} {c : Nat} (h : hexA bs = some c) : scN c := by
  unfold hexA at h
  split at h
  · cases h
  · split at h
    · cases h
    · split at h
      · rename_i hs
        injection h with h
        subst h
        rw [scB_nat] at hs
        exact of_decide_eq_true hs
      · cases h
theorem nx_sc {cs : List Nat} {i c j : Nat} (hsc : ∀ c ∈ cs, scN c) (hi : i < cs.length) (h : nxA cs i = some (c, j)) : scN c := by
  have hl : ∀ k, k < cs.length → scN (limb cs k) := fun k hk => by rw [limb_lt hk]; exact hsc _ (List.getElem_mem hk)
  unfold nxA at h
  split at h
  · unfold escA at h
    split at h
    · rename_i hlt
      (repeat' split at h)
      · injection h with h; injection h with h _; subst h; unfold scN; omega
      · injection h with h; injection h with h _; subst h; unfold scN; omega
      · injection h with h; injection h with h _; subst h; unfold scN; omega
      · injection h with h; injection h with h _; subst h; exact hl _ hlt
      · rw [num_same (by omega)] at h
        unfold numR at h
        split at h
        · rw [Option.map_eq_some_iff] at h
          obtain ⟨x, hx, h⟩ := h
          injection h with h _
          subst h
          exact hexA_sc hx
        · cases h
      · cases h
    · cases h
  · injection h with h; injection h with h _; subst h; exact hl _ hi
/-- What text answers. -/
def TxtPost (cs : List Nat) (i : Nat) (w : World) (e : Ending) (w' : World) : Prop :=
  Below w.heap.size w w' ∧ ((∃ l j v, capA (txtA cs i []) = some (l, j) ∧ e = .returned (.tuple #[v, .int .i64 (j : Nat)]) ∧ Sl .i64 w' v l ∧ l.length ≤ 4096 ∧ (∀ c ∈ l, scN c) ∧ j ≤ cs.length) ∨
    (capA (txtA cs i []) = none ∧ e = .returned (.tuple #[.slice none 0 0, .int .i64 (-1)])))
theorem nx_plain {cs : List Nat} {k : Nat} (h : limb cs k ≠ 92) : nxA cs k = some (limb cs k, k + 1) := by unfold nxA; rw [if_neg h]
theorem nx_esc {cs : List Nat} {k : Nat} (h : limb cs k = 92) : nxA cs k = escA cs (k + 1) := by unfold nxA; rw [if_pos h]
theorem esc_out {cs : List Nat} {i : Nat} (h : cs.length ≤ i) : escA cs i = none := by unfold escA; rw [if_neg (by omega)]
theorem esc_in {cs : List Nat} {i : Nat} (h : i < cs.length) : escA cs i = if limb cs i = 110 then some (10, i + 1) else if limb cs i = 116 then some (9, i + 1) else if limb cs i = 114 then some (13, i + 1)
    else if limb cs i = 92 ∨ limb cs i = 34 then some (limb cs i, i + 1) else if limb cs i = 120 then numA cs (i + 1) else none := by unfold escA; rw [if_pos h]

set_option maxRecDepth 100000 in
set_option maxHeartbeats 4000000 in
theorem rtext_any (ao : Option Addr) (cap : Nat) (cs : List Nat) (i : Nat) (w : World) (hs : Sl .i64 w (.slice ao cs.length cap) cs) (hl : cs.length ≤ 1000000) (hi1 : i ≤ cs.length) (hsc : ∀ c ∈ cs, scN c) :
    Calls Tryz.prog 17 #[.slice ao cs.length cap, .int .i64 (i : Nat)] w (TxtPost cs i w) := by
  obtain ⟨i0, hi, hz0, hz1, hz2⟩ := info_parts infoInt
  have HS := Lib.hid hs; clear hs
  have HSC := Lib.hid hsc; clear hsc
  go_enter Tryz.func17, Tryz.ntmps17
  go_wp2_with fail
  go_loopw [6, 1] (fun v iv wr => ∃ (k : Nat) (acc : List Nat), k ≤ cs.length ∧ iv = .int .i64 (k : Nat) ∧ wr.ownsRow w.heap.size 3 1 v acc.length (nc acc) ∧ txtA cs k acc = txtA cs i [] ∧ acc.length ≤ k ∧ (∀ c ∈ acc, scN c) ∧ Below w.heap.size w wr) (fun _ iv _ => cs.length - (intOf iv).toNat)
  case atStart => exact ⟨i, [], hi1, rfl, World.ownsRow_nil _ _ _ _, rfl, Nat.zero_le _, (fun c h => by cases h), Below.refl _ _⟩
  case round =>
    obtain ⟨k, acc, hk, rfl, hown, htx, hak, hac, hbel⟩ := hrel
    have HOW := Lib.hid hown
    have HTX := Lib.hid htx
    have HAC := Lib.hid hac
    have HBW := Lib.hid hbel
    have HSW := Lib.hid (HS.out.below hbel)
    have hsz := hbel.size
    clear hown htx hac hbel
    by_cases hkn : k < cs.length
    · have hki : ((k : Nat) : Int) < ((cs.length : Nat) : Int) := by omega
      obtain ⟨b, off, rfl, hb, hc⟩ := sl_open HSW.out hkn
      have hcell := hc k hkn
      have hscap := sl_cap HSW.out
      have HC := Lib.hid hc
      clear hc
      by_cases hq34 : limb cs k = 34
      · rw [hq34] at hcell
        have HT : Hid (txtA cs i [] = some (acc, k + 1)) := Lib.hid (by rw [← HTX.out, txtA_quote hkn hq34])
        obtain ⟨oa, oc, rfl⟩ := own_slice HOW.out
        by_cases h4 : acc.length ≤ 4096
        · have h4i : ¬ (4096 : Int) < ((acc.length : Nat) : Int) := by omega
          have HR : Hid (capA (txtA cs i []) = some (acc, k + 1)) := Lib.hid (by rw [HT.out]; show (if acc.length ≤ 4096 then _ else _) = _; rw [if_pos h4])
          have hsl : Sl .i64 wr (.slice oa acc.length oc) acc := by
            have := nat_slv (owns_slv HOW.out) (by intro z hz; obtain ⟨x, _, rfl⟩ := List.mem_map.1 hz; omega)
            rw [List.map_map] at this
            have e : (Int.toNat ∘ fun (c : Nat) => (c : Int)) = id := by funext c; simp
            rw [e, List.map_id] at this
            exact this
          have HSL := Lib.hid hsl
          clear hsl
          go_wp2_with fail
          refine bodyPost_ret (v := .tuple #[.slice oa acc.length oc, .int .i64 ((k + 1 : Nat) : Int)]) (by simp [results, Tryz.results17, go_sem]) rfl ?_
          exact ⟨HBW.out, .inl ⟨acc, k + 1, _, HR.out, rfl, HSL.out, h4, HAC.out, by omega⟩⟩
        · have h4i : (4096 : Int) < ((acc.length : Nat) : Int) := by omega
          have HR : Hid (capA (txtA cs i []) = none) := Lib.hid (by rw [HT.out]; show (if acc.length ≤ 4096 then _ else _) = _; rw [if_neg h4])
          go_wp2_with fail
          refine bodyPost_ret (v := .tuple #[.slice none 0 0, .int .i64 (-1)]) (by simp [results, Tryz.results17, go_sem]) rfl ?_
          exact ⟨HBW.out, .inr ⟨HR.out, rfl⟩⟩
      · have t34 : (((limb cs k : Nat) : Int) == 34) = false := by rw [beq_eq_false_iff_ne]; omega
        by_cases hq92 : limb cs k = 92
        · rw [hq92] at hcell
          have hnx := nx_esc hq92
          have HNX0 := Lib.hid hnx
          clear hnx t34
          have hw1 : IntKind.i64.wrap (((k : Nat) : Int) + 1) = (((k + 1 : Nat)) : Int) := by rw [show ((k : Nat) : Int) + 1 = (((k + 1 : Nat)) : Int) by omega]; exact wrap_nat (by omega)
          go_wp2_with fail
          refine (rat_any (some ⟨b, off, none⟩) cap cs (k + 1) _ HSW.out).mono ?_
          rintro e w1 ⟨rfl, rfl⟩
          clear hw1
          have HBX := HBW
          obtain ⟨d, hd⟩ : ∃ d, d = atZ cs (k + 1) := ⟨_, rfl⟩
          rw [← hd]
          by_cases hk1 : k + 1 < cs.length
          · by_cases d110 : d = 110
            · subst d110
              have hl1 : limb cs (k + 1) = 110 := (atZ_eq.1 hd.symm).2
              have hn : nxA cs k = some (10, k + 2) := by rw [HNX0.out, esc_in hk1, if_pos hl1]
              have HXS := Lib.hid (nx_sc HSC.out hkn hn)
              have HTS := Lib.hid (txtA_step (acc := acc) hkn hq34 hn)
              clear hn hl1 hd
              go_wp2_with (at_builtin; go_loud (refine wpList_append_nc rfl _ _ 22 rfl w.heap.size 3 i0 (.int .i64 0) Tryz.underlying22 hi hz0 hz1 hz2 rfl _ acc rfl (HOW.out.alloc _) _ [10] rfl (slv_nat (one_sl wr 10)) (by simp only [List.length_singleton]; omega) (by simp; omega) ?_); intro v2 w2 hown2 hgrow)
              go_roundw
              case measure => simp only [intOf]; omega
              case rel =>
                have hlo := HOW.out.lt
                refine ⟨k + 2, acc ++ [10], by omega, by go_num, hown2, HTS.out.symm.trans HTX.out, by simp; omega, ?_, (HBX.out.alloc HBX.out.size _).grown hgrow (by simp; omega) (fun q hq => (hlo q hq).1)⟩
                intro y hy
                rcases List.mem_append.1 hy with hy | hy
                · exact HAC.out y hy
                · rw [List.mem_singleton] at hy; subst hy; exact HXS.out
            by_cases d116 : d = 116
            · subst d116
              have hl1 : limb cs (k + 1) = 116 := (atZ_eq.1 hd.symm).2
              have hn : nxA cs k = some (9, k + 2) := by rw [HNX0.out, esc_in hk1, if_neg (by rw [hl1]; decide), if_pos hl1]
              have HXS := Lib.hid (nx_sc HSC.out hkn hn)
              have HTS := Lib.hid (txtA_step (acc := acc) hkn hq34 hn)
              clear hn hl1 hd
              go_wp2_with (at_builtin; go_loud (refine wpList_append_nc rfl _ _ 22 rfl w.heap.size 3 i0 (.int .i64 0) Tryz.underlying22 hi hz0 hz1 hz2 rfl _ acc rfl (HOW.out.alloc _) _ [9] rfl (slv_nat (one_sl wr 9)) (by simp only [List.length_singleton]; omega) (by simp; omega) ?_); intro v2 w2 hown2 hgrow)
              go_roundw
              case measure => simp only [intOf]; omega
              case rel =>
                have hlo := HOW.out.lt
                refine ⟨k + 2, acc ++ [9], by omega, by go_num, hown2, HTS.out.symm.trans HTX.out, by simp; omega, ?_, (HBX.out.alloc HBX.out.size _).grown hgrow (by simp; omega) (fun q hq => (hlo q hq).1)⟩
                intro y hy
                rcases List.mem_append.1 hy with hy | hy
                · exact HAC.out y hy
                · rw [List.mem_singleton] at hy; subst hy; exact HXS.out
            by_cases d114 : d = 114
            · subst d114
              have hl1 : limb cs (k + 1) = 114 := (atZ_eq.1 hd.symm).2
              have hn : nxA cs k = some (13, k + 2) := by rw [HNX0.out, esc_in hk1, if_neg (by rw [hl1]; decide), if_neg (by rw [hl1]; decide), if_pos hl1]
              have HXS := Lib.hid (nx_sc HSC.out hkn hn)
              have HTS := Lib.hid (txtA_step (acc := acc) hkn hq34 hn)
              clear hn hl1 hd
              go_wp2_with (at_builtin; go_loud (refine wpList_append_nc rfl _ _ 22 rfl w.heap.size 3 i0 (.int .i64 0) Tryz.underlying22 hi hz0 hz1 hz2 rfl _ acc rfl (HOW.out.alloc _) _ [13] rfl (slv_nat (one_sl wr 13)) (by simp only [List.length_singleton]; omega) (by simp; omega) ?_); intro v2 w2 hown2 hgrow)
              go_roundw
              case measure => simp only [intOf]; omega
              case rel =>
                have hlo := HOW.out.lt
                refine ⟨k + 2, acc ++ [13], by omega, by go_num, hown2, HTS.out.symm.trans HTX.out, by simp; omega, ?_, (HBX.out.alloc HBX.out.size _).grown hgrow (by simp; omega) (fun q hq => (hlo q hq).1)⟩
                intro y hy
                rcases List.mem_append.1 hy with hy | hy
                · exact HAC.out y hy
                · rw [List.mem_singleton] at hy; subst hy; exact HXS.out
            by_cases d92 : d = 92 ∨ d = 34
            · obtain ⟨x, rfl, hx⟩ : ∃ x : Nat, d = (x : Int) ∧ (x = 92 ∨ x = 34) := by
                rcases d92 with h | h
                · exact ⟨92, h, .inl rfl⟩
                · exact ⟨34, h, .inr rfl⟩
              have hl1 : limb cs (k + 1) = x := (atZ_eq.1 hd.symm).2
              have hc1 : wr.cell? ⟨b, off + (k + 1), none⟩ = some (.int .i64 ((x : Nat) : Int)) := by rw [← hl1]; exact HC.out (k + 1) hk1
              have hn : nxA cs k = some (x, k + 2) := by rw [HNX0.out, esc_in hk1, if_neg (by omega), if_neg (by omega), if_neg (by omega), if_pos (by omega), hl1]
              have HXS := Lib.hid (nx_sc HSC.out hkn hn)
              have HTS := Lib.hid (txtA_step (acc := acc) hkn hq34 hn)
              have hk2 : ((k : Nat) : Int) + 1 < ((cs.length : Nat) : Int) := by omega
              clear hn hl1 hd d92 d110 d116 d114
              have HK1 := Lib.hid hk1
              rcases hx with rfl | rfl
              all_goals
                go_wp2_with (at_builtin; go_loud (refine wpList_append_nc rfl _ _ 22 rfl w.heap.size 3 i0 (.int .i64 0) Tryz.underlying22 hi hz0 hz1 hz2 rfl _ acc rfl (HOW.out.alloc _) _ _ rfl (slv_nat (one_sl wr _)) (by simp only [List.length_singleton]; omega) (by simp; omega) ?_); intro v2 w2 hown2 hgrow)
                go_roundw
                case measure => simp only [intOf]; omega
                case rel =>
                  have hlo := HOW.out.lt
                  refine ⟨k + 2, acc ++ [_], by omega, by go_num, hown2, HTS.out.symm.trans HTX.out, by simp; omega, ?_, (HBX.out.alloc HBX.out.size _).grown hgrow (by simp; omega) (fun q hq => (hlo q hq).1)⟩
                  intro y hy
                  rcases List.mem_append.1 hy with hy | hy
                  · exact HAC.out y hy
                  · rw [List.mem_singleton] at hy; subst hy; exact HXS.out
            by_cases d120 : d = 120
            · subst d120
              have hl1 : limb cs (k + 1) = 120 := (atZ_eq.1 hd.symm).2
              have hn : nxA cs k = numR cs (k + 2) := by rw [HNX0.out, esc_in hk1, if_neg (by omega), if_neg (by omega), if_neg (by omega), if_neg (by omega), if_pos hl1]; exact num_same (by omega)
              have HNX := Lib.hid hn
              clear hn hl1 hd d92 d110 d116 d114
              have hkr : kR cs (k + 2) ≤ k + 9 := by unfold kR; omega
              have hkt : kR cs (k + 2) ≤ til semN cs (k + 2) := by unfold kR; omega
              have hkg : k + 2 ≤ kR cs (k + 2) := by unfold kR; have := @til_ge' semN cs (k + 2); omega
              have hkl := @til_le semN cs (k + 2) (by omega)
              have HKM : Hid (kR cs (k + 2) = til semN cs (k + 2) ∨ kR cs (k + 2) = k + 9) := Lib.hid (by unfold kR; omega)
              go_wp2_with fail
              go_loopw [8] (fun v wq => ∃ m : Nat, k + 2 ≤ m ∧ m ≤ kR cs (k + 2) ∧ v = .int .i64 (m : Nat) ∧ wq = wr) (fun v _ => kR cs (k + 2) - (intOf v).toNat)
              case atStart => exact ⟨k + 2, Nat.le_refl _, hkg, by go_num, rfl⟩
              case round =>
                obtain ⟨m, hm1, hm2, rfl, rfl⟩ := hrel
                by_cases hm3 : m < kR cs (k + 2)
                · have hml : ((m : Nat) : Int) < ((cs.length : Nat) : Int) := by omega
                  have hno := til_no (p := semN) (cs := cs) (i := k + 2) (j := m) hm1 (by omega)
                  have h59 : (((limb cs m : Nat) : Int) != 59) = true := by
                    rw [bne_iff_ne]
                    intro he
                    have : limb cs m = 59 := by omega
                    rw [this] at hno
                    cases hno
                  have hcm := HC.out m (by omega)
                  have hm9 : ((m : Nat) : Int) < ((k : Nat) : Int) + 9 := by omega
                  clear hno
                  go_wp2_with fail
                  go_roundw
                  case measure => simp only [intOf]; omega
                  case rel => exact ⟨m + 1, by omega, by omega, by go_num, by first | rfl | trivial⟩
                · have hme : m = kR cs (k + 2) := by omega
                  by_cases hq : m < cs.length ∧ limb cs m = 59
                  · obtain ⟨hml0, hm59⟩ := hq
                    have hml : ((m : Nat) : Int) < ((cs.length : Nat) : Int) := by omega
                    have hcm : wr.cell? ⟨b, off + m, none⟩ = some (.int .i64 59) := by have := HC.out m hml0; rw [hm59] at this; exact this
                    have HRN : Hid (nxA cs k = (hexA (encL (cutN cs (k + 2) m))).map fun c => (c, m + 1)) := Lib.hid (by
                      rw [HNX.out]
                      unfold numR
                      rw [← hme, if_pos (by rw [atZ_in hml0, hm59]; rfl)])
                    have HAT : Hid (atZ cs m = 59) := Lib.hid (by rw [atZ_in hml0, hm59]; rfl)
                    have HSL := Lib.hid (cutN_sl HSW.out hm1 (by omega))
                    have HCS : Hid (∀ c ∈ cutN cs (k + 2) m, scN c) := Lib.hid fun c hc => HSC.out c (List.mem_of_mem_drop (List.mem_of_mem_take hc))
                    have HCL : Hid ((cutN cs (k + 2) m).length ≤ 1000000) := Lib.hid (by rw [cutN_len hm1 (by omega)]; omega)
                    have hm4 : ((k : Nat) : Int) + 2 ≤ ((m : Nat) : Int) := by omega
                    have hm5 : ((m : Nat) : Int) ≤ ((cap : Nat) : Int) := by omega
                    clear hkr hkt hkg hkl hm3 hme hm59
                    go_wp2_with fail
                    refine (rat_any (some ⟨b, off, none⟩) cap cs m _ HSW.out).mono ?_
                    rintro e w1 ⟨rfl, rfl⟩
                    rw [HAT.out]
                    go_wp2_with fail
                    refine (rstr_any _ _ _ HSL.out HCL.out HCS.out).mono ?_
                    rintro e w2 ⟨rfl, hb2⟩
                    have HBY := Lib.hid (HBW.out.trans (hb2.mono HBW.out.size))
                    have HOY := Lib.hid (owns_below HOW.out hb2)
                    clear hb2
                    have hhex := rhex_any (mkB (encL (cutN cs (k + 2) m))) w2
                    unfold HexPost at hhex
                    rw [byt_mk (encL_by HCS.out)] at hhex
                    go_wp2_with fail
                    refine hhex.mono ?_
                    rintro e w3 ⟨rfl, rfl⟩
                    clear hhex
                    cases hh : hexA (encL (cutN cs (k + 2) m)) with
                    | none =>
                      have HNO : Hid (capA (txtA cs i []) = none) := Lib.hid (by
                        have hn : nxA cs k = none := by rw [HRN.out, hh]; rfl
                        rw [← HTX.out, txtA_bad hkn hq34 hn]; rfl)
                      have HBX := HBY
                      clear hh
                      go_wp2_with fail
                      refine bodyPost_ret (v := .tuple #[.slice none 0 0, .int .i64 (-1)]) (by simp [results, Tryz.results17, go_sem]) rfl ?_
                      exact ⟨HBX.out, .inr ⟨HNO.out, rfl⟩⟩
                    | some c =>
                      have hn : nxA cs k = some (c, m + 1) := by rw [HRN.out, hh]; rfl
                      have HXS := Lib.hid (nx_sc HSC.out hkn hn)
                      have HTS := Lib.hid (txtA_step (acc := acc) hkn hq34 hn)
                      have hc0 : ¬ ((c : Nat) : Int) < 0 := by omega
                      have HBX := HBY
                      replace HOW := HOY
                      have hsz := HBX.out.size
                      clear hn hh
                      go_wp2_with (at_builtin; go_loud (refine wpList_append_nc rfl _ _ 22 rfl w.heap.size 3 i0 (.int .i64 0) Tryz.underlying22 hi hz0 hz1 hz2 rfl _ acc rfl (HOW.out.alloc _) _ [c] rfl (slv_nat (one_sl w2 c)) (by simp only [List.length_singleton]; omega) (by simp; omega) ?_); intro v2 w2 hown2 hgrow)
                      go_roundw
                      case measure => simp only [intOf]; omega
                      case rel =>
                        have hlo := HOW.out.lt
                        refine ⟨m + 1, acc ++ [c], by omega, by go_num, hown2, HTS.out.symm.trans HTX.out, by simp; omega, ?_, (HBX.out.alloc HBX.out.size _).grown hgrow (by simp; omega) (fun q hq => (hlo q hq).1)⟩
                        intro y hy
                        rcases List.mem_append.1 hy with hy | hy
                        · exact HAC.out y hy
                        · rw [List.mem_singleton] at hy; subst hy; exact HXS.out
                  · have HNO : Hid (capA (txtA cs i []) = none) := Lib.hid (by
                      have hz : atZ cs m ≠ 59 := by
                        intro he
                        exact hq (atZ_eq.1 he)
                      have hn : nxA cs k = none := by
                        rw [HNX.out]
                        unfold numR
                        rw [← hme, if_neg hz]
                      rw [← HTX.out, txtA_bad hkn hq34 hn]; rfl)
                    have hz : ((atZ cs m) != 59) = true := by
                      rw [bne_iff_ne]
                      intro he
                      exact hq (atZ_eq.1 he)
                    have HZ := Lib.hid hz
                    clear hz
                    by_cases hml0 : m < cs.length
                    · have hml : ((m : Nat) : Int) < ((cs.length : Nat) : Int) := by omega
                      have h59 : (((limb cs m : Nat) : Int) != 59) = true := by
                        rw [bne_iff_ne]
                        intro he
                        exact hq ⟨hml0, by omega⟩
                      have hcm := HC.out m hml0
                      have hm9 : ¬ ((m : Nat) : Int) < ((k : Nat) : Int) + 9 := by
                        rcases HKM.out with h | h
                        · exfalso
                          have := til_at (p := semN) (cs := cs) (i := k + 2) (by omega)
                          rw [← h, ← hme] at this
                          exact hq ⟨hml0, beq_iff_eq.1 this⟩
                        · omega
                      clear hq hkr hkt hkg hkl hm3 hme
                      go_wp2_with fail
                      refine (rat_any (some ⟨b, off, none⟩) cap cs m _ HSW.out).mono ?_
                      rintro e w1 ⟨rfl, rfl⟩
                      have hz := HZ.out
                      go_wp2_with fail
                      refine bodyPost_ret (v := .tuple #[.slice none 0 0, .int .i64 (-1)]) (by simp [results, Tryz.results17, go_sem]) rfl ?_
                      exact ⟨HBX.out, .inr ⟨HNO.out, rfl⟩⟩
                    · have hml : ¬ ((m : Nat) : Int) < ((cs.length : Nat) : Int) := by omega
                      clear hq hkr hkt hkg hkl hm3 hme
                      go_wp2_with fail
                      refine (rat_any (some ⟨b, off, none⟩) cap cs m _ HSW.out).mono ?_
                      rintro e w1 ⟨rfl, rfl⟩
                      have hz := HZ.out
                      go_wp2_with fail
                      refine bodyPost_ret (v := .tuple #[.slice none 0 0, .int .i64 (-1)]) (by simp [results, Tryz.results17, go_sem]) rfl ?_
                      exact ⟨HBX.out, .inr ⟨HNO.out, rfl⟩⟩
            · have hl1 := (atZ_eq (a := limb cs (k + 1))).2 ⟨hk1, rfl⟩
              have HNO : Hid (capA (txtA cs i []) = none) := Lib.hid (by
                have hn : nxA cs k = none := by rw [HNX0.out, esc_in hk1, if_neg (by omega), if_neg (by omega), if_neg (by omega), if_neg (by omega), if_neg (by omega)]
                rw [← HTX.out, txtA_bad hkn hq34 hn]; rfl)
              have t110 : (d == 110) = false := by rw [beq_eq_false_iff_ne]; omega
              have t116 : (d == 116) = false := by rw [beq_eq_false_iff_ne]; omega
              have t114 : (d == 114) = false := by rw [beq_eq_false_iff_ne]; omega
              have t92 : (d == 92) = false := by rw [beq_eq_false_iff_ne]; omega
              have t34 : (d == 34) = false := by rw [beq_eq_false_iff_ne]; omega
              have t120 : (d == 120) = false := by rw [beq_eq_false_iff_ne]; omega
              clear hd hl1 d92 d110 d116 d114 d120
              go_wp2_with fail
              refine bodyPost_ret (v := .tuple #[.slice none 0 0, .int .i64 (-1)]) (by simp [results, Tryz.results17, go_sem]) rfl ?_
              exact ⟨HBX.out, .inr ⟨HNO.out, rfl⟩⟩
          · have hl1 := atZ_out (cs := cs) (i := k + 1) (by omega)
            have HNO : Hid (capA (txtA cs i []) = none) := Lib.hid (by
              have hn : nxA cs k = none := by rw [HNX0.out]; exact esc_out (by omega)
              rw [← HTX.out, txtA_bad hkn hq34 hn]; rfl)
            have hdm : d = -1 := by rw [hd, hl1]
            subst hdm
            clear hd hl1
            go_wp2_with fail
            refine bodyPost_ret (v := .tuple #[.slice none 0 0, .int .i64 (-1)]) (by simp [results, Tryz.results17, go_sem]) rfl ?_
            exact ⟨HBX.out, .inr ⟨HNO.out, rfl⟩⟩
        · have t92 : (((limb cs k : Nat) : Int) != 92) = true := by rw [bne_iff_ne]; omega
          have HXS := Lib.hid (nx_sc HSC.out hkn (nx_plain hq92))
          have HTS := Lib.hid (txtA_step (acc := acc) hkn hq34 (nx_plain hq92))
          have HBX := HBW
          generalize hx : limb cs k = x at *
          go_wp2_with (at_builtin; go_loud (refine wpList_append_nc rfl _ _ 22 rfl w.heap.size 3 i0 (.int .i64 0) Tryz.underlying22 hi hz0 hz1 hz2 rfl _ acc rfl (HOW.out.alloc _) _ [x] rfl (slv_nat (one_sl wr x)) (by simp only [List.length_singleton]; omega) (by simp; omega) ?_); intro v2 w2 hown2 hgrow)
          go_roundw
          case measure => simp only [intOf]; omega
          case rel =>
            have hlo := HOW.out.lt
            refine ⟨k + 1, acc ++ [x], by omega, by go_num, hown2, HTS.out.symm.trans HTX.out, by simp; omega, ?_, (HBX.out.alloc HBX.out.size _).grown hgrow (by simp; omega) (fun q hq => (hlo q hq).1)⟩
            intro y hy
            rcases List.mem_append.1 hy with hy | hy
            · exact HAC.out y hy
            · rw [List.mem_singleton] at hy; subst hy; exact HXS.out
    · have hki : ¬ ((k : Nat) : Int) < ((cs.length : Nat) : Int) := by omega
      have hno : capA (txtA cs i []) = none := by rw [← HTX.out, txtA_out (by omega)]; rfl
      have HNO := Lib.hid hno
      clear hno
      go_wp2_with fail
      refine bodyPost_ret (v := .tuple #[.slice none 0 0, .int .i64 (-1)]) (by simp [results, Tryz.results17, go_sem]) rfl ?_
      exact ⟨HBW.out, .inr ⟨HNO.out, rfl⟩⟩
end Go.Proofs.YtkocmjmmflphnaaGreatDoor
