/- The looker's map: from pairs to numbers, looked into and written. No walk here. -/
import Derived.Test.YtimnhbndokfgnaaSmMath
import Derived.Test.YtimnhbndokfgnaaStNmM
import Derived.Laws.StructEq
import Derived.WideKeyRuns
namespace Go.Proofs.Ytimnhbndokfgnaa
open Go.RowKit Go.MapKept
open Go.ChangeMaps (setBlock)

def pk (p : Pr) : Value := .agg #[.int .i64 p.1.1, .int .i64 p.1.2, .int .i64 p.2.1, .int .i64 p.2.2]
theorem pk_inj {p q : Pr} (h : pk p = pk q) : p = q := by
  obtain ⟨⟨a, b⟩, c, d⟩ := p
  obtain ⟨⟨a', b'⟩, c', d'⟩ := q
  simp [pk] at h
  obtain ⟨rfl, rfl, rfl, rfl⟩ := h
  rfl
theorem wpList_lookup_run {P : Program} (w : World) {ops : Array Oper} {rest : List Oper} {o : Oper} {a : Act} {Q : Exit → Act → World → Prop} (hg : o.guard = none) (m x : Operand) (t : TypeId) (ok : Bool) (hop : o.op = Op.lookup t m x ok)
    (mv key : Value) (hm : a.eval m = mv) (hx : a.eval x = key) (r : Value) (hrun : (Instr.lookup t mv key ok).run P w = .ok r w) (hK : wpList P ops Q rest (a.put o.dst r) w) : wpList P ops Q (o :: rest) a w := by
  refine wpList_plain hg fun K' hK' => ?_
  unfold Oper.wp
  simp [execOp, hop, hm, hx, hrun, Result.andThen]
  exact hK' _ _ hK
set_option maxRecDepth 100000 in
theorem eq_pair (p q : Pr) (w : World) : (Op.equal 126 (pk p) (pk q)).run Try.prog w = .ok (decide (p = q)) w := by
  obtain ⟨⟨a, b⟩, c, d⟩ := p
  obtain ⟨⟨a', b'⟩, c', d'⟩ := q
  unfold pk Op.equal Op.maxDepth
  go_simp
  by_cases h1 : a = a' <;> by_cases h2 : b = b' <;> by_cases h3 : c = c' <;> by_cases h4 : d = d' <;> simp [h1, h2, h3, h4]
theorem check_pair (p : Pr) (w : World) : (Instr.checkKey false 10000 126 (pk p)).run Try.prog w = .ok () w := by kernel_rfl
theorem checkE_pair (p : Pr) (w : World) : (Instr.checkKey true 10000 126 (pk p)).run Try.prog w = .ok () w := by kernel_rfl
theorem find_pair (w : World) (p : Pr) : ∀ (es : List MapEntry) (i : Nat), (∀ e ∈ es, ∃ q, e.key = pk q) →
    ((Instr.findAsking 126 (pk p) es i).run Try.prog w = .ok none w ∧ ∀ e ∈ es, e.key ≠ pk p) ∨
    ∃ j e, (Instr.findAsking 126 (pk p) es i).run Try.prog w = .ok (some (i + j, e.val)) w ∧ es[j]? = some e ∧ e.key = pk p
  | [], i, _ => Or.inl ⟨by simp [Instr.findAsking], by simp⟩
  | e :: es, i, hall => by
    obtain ⟨q, hq⟩ := hall e (by simp)
    have hr := eq_pair p q w
    rw [← hq] at hr
    by_cases hpq : p = q
    · right
      subst hpq
      refine ⟨0, e, ?_, rfl, hq⟩
      simp [Instr.findAsking, hr]
    · have hne : e.key ≠ pk p := fun h => hpq (pk_inj (h.symm.trans hq))
      rcases find_pair w p es (i + 1) (fun y hy => hall y (by simp [hy])) with ⟨h1, h2⟩ | ⟨j, e', h1, h2, h3⟩
      · left
        refine ⟨by simp [Instr.findAsking, hr, hpq, h1], fun y hy => ?_⟩
        rcases List.mem_cons.1 hy with rfl | hy
        · exact hne
        · exact h2 y hy
      · right
        exact ⟨j + 1, e', by simp [Instr.findAsking, hr, hpq, h1, Nat.add_assoc, Nat.add_comm 1 j], by simpa using h2, h3⟩
theorem widePair : (match Try.prog.underlying 126 with | some (.array _ _) | some (.struct _) => true | _ => false) = true := by kernel_rfl
set_option maxRecDepth 100000 in
theorem findKey_pair (w : World) (x : Value) (es : List MapEntry) : (Instr.findKey 126 x es).run Try.prog w = (Instr.findAsking 126 x es).run Try.prog w := run_findKey_eq (w := w) (k := 126) widePair x es
/-- The map in block b says tk. -/
structure Says (es : Array MapEntry) (tk : Pr → Option Int) : Prop where
  keys : ∀ e ∈ es.toList, ∃ q c, e.key = pk q ∧ e.val = .int .i64 c
  one : ∀ (i j : Nat) (e f : MapEntry), es.toList[i]? = some e → es.toList[j]? = some f → e.key = f.key → i = j
  got : ∀ e ∈ es.toList, ∀ q c, e.key = pk q → e.val = .int .i64 c → tk q = some c
  has : ∀ q c, tk q = some c → ∃ e ∈ es.toList, e.key = pk q
def MapT (w : World) (b : Nat) (tk : Pr → Option Int) : Prop := ∃ es clock, w.heap[b]? = some (.map es clock) ∧ Says es tk
theorem MapT.move {w w' : World} {b : Nat} {tk : Pr → Option Int} (h : MapT w b tk) (hk : w'.heap[b]? = w.heap[b]?) : MapT w' b tk := by
  obtain ⟨es, c, hb, hs⟩ := h
  exact ⟨es, c, hk.trans hb, hs⟩
theorem MapT.new (w : World) : MapT (w.alloc (.map #[] 0)) w.heap.size fun _ => none :=
  ⟨#[], 0, heap_alloc_new w _, by simp, by simp, by simp, fun _ _ h => by cases h⟩
theorem MapT.look {w : World} {b : Nat} {tk : Pr → Option Int} (h : MapT w b tk) (p : Pr) :
    (tk p = none ∧ (Instr.lookup 119 (.map (some b)) (pk p) true).run Try.prog w = .ok (.tuple #[.int .i64 0, .bool false]) w) ∨
    ∃ c, tk p = some c ∧ (Instr.lookup 119 (.map (some b)) (pk p) true).run Try.prog w = .ok (.tuple #[.int .i64 c, .bool true]) w := by
  obtain ⟨es, clock, hb, hs⟩ := h
  have hck : (Instr.checkKey es.isEmpty 10000 126 (pk p)).run Try.prog w = .ok () w := by
    cases es.isEmpty
    · exact check_pair p w
    · exact checkE_pair p w
  have hfe := findKey_pair w (pk p) es.toList
  rcases find_pair w p es.toList 0 (fun e he => by obtain ⟨q, c, h1, _⟩ := hs.keys e he; exact ⟨q, h1⟩) with ⟨h1, h2⟩ | ⟨j, e0, h1, h2, h3⟩
  · rw [h1] at hfe
    refine .inl ⟨?_, by simp [Instr.lookup, run_underlying Try.underlying119, MapKept.run_getObj_map hb, hck, hfe, Result.andThen]⟩
    cases htk : tk p with
    | none => rfl
    | some c =>
      obtain ⟨e, he, hk⟩ := hs.has p c htk
      exact absurd hk (h2 e he)
  · rw [h1] at hfe
    have hm := List.mem_of_getElem? h2
    obtain ⟨q, c, hk, hv⟩ := hs.keys e0 hm
    refine .inr ⟨c, hs.got e0 hm p c h3 hv, ?_⟩
    rw [hv] at hfe
    simp [Instr.lookup, run_underlying Try.underlying119, MapKept.run_getObj_map hb, hck, hfe, Result.andThen]
theorem stays_pair (p : Pr) (w : World) : (Instr.keyThatStays (pk p) (pk p)).run Try.prog w = .ok (pk p) w := by
  have hs : Instr.sameBits 10000 (pk p) (pk p) = true := by
    show Instr.sameBits (9999 + 1) (pk p) (pk p) = true
    simp [pk, Instr.sameBits]
  simp [Instr.keyThatStays, hs]
theorem MapT.put {w : World} {b : Nat} {tk : Pr → Option Int} (h : MapT w b tk) (p : Pr) (c : Int) : ∃ w2, (Instr.mapUpdate 119 (.map (some b)) (pk p) (.int .i64 c)).run Try.prog w = .ok () w2 ∧
    MapT w2 b (putT tk p c) ∧ Keeps (fun x => x ≠ b) w w2 ∧ w2.os = w.os ∧ w2.tape = w.tape ∧ w2.output = w.output := by
  obtain ⟨es, clock, hb, hs⟩ := h
  have hbl := (Array.getElem?_eq_some_iff.1 hb).1
  have hck := check_pair p w
  have hfe := findKey_pair w (pk p) es.toList
  have hkeep : ∀ o, Keeps (fun x => x ≠ b) w (setBlock w b o) := fun o => ⟨by simp [setBlock], fun x hx hne => by simp [setBlock, Ne.symm hne]⟩
  rcases find_pair w p es.toList 0 (fun e he => by obtain ⟨q, c, h1, _⟩ := hs.keys e he; exact ⟨q, h1⟩) with ⟨h1, h2⟩ | ⟨j, e0, h1, h2, h3⟩
  · rw [h1] at hfe
    refine ⟨setBlock w b (.map (es.push ⟨pk p, .int .i64 c, clock⟩) (clock + 1)), ?_, ⟨es.push ⟨pk p, .int .i64 c, clock⟩, clock + 1, by simp [setBlock, hbl], ?_, ?_, ?_, ?_⟩, hkeep _, rfl, rfl, rfl⟩
    · simp [Instr.mapUpdate, run_underlying Try.underlying119, MapKept.run_getObj_map hb, hck, hfe, MapKept.run_setObj_map _ hb, Result.andThen, setBlock]
    · intro e he
      rw [Array.toList_push, List.mem_append, List.mem_singleton] at he
      rcases he with he | rfl
      · exact hs.keys e he
      · exact ⟨p, c, rfl, rfl⟩
    · intro i k e f he hf hef
      rw [Array.toList_push] at he hf
      rcases Nat.lt_or_ge i es.toList.length with hi | hi
      · rw [List.getElem?_append_left hi] at he
        rcases Nat.lt_or_ge k es.toList.length with hk | hk
        · rw [List.getElem?_append_left hk] at hf
          exact hs.one i k e f he hf hef
        · rw [List.getElem?_append_right hk] at hf
          have := (List.mem_singleton.1 (List.mem_of_getElem? hf))
          subst this
          exact absurd hef (h2 e (List.mem_of_getElem? he))
      · rw [List.getElem?_append_right hi] at he
        have h5 := (List.getElem?_eq_some_iff.1 he).1
        have h6 := (List.mem_singleton.1 (List.mem_of_getElem? he))
        subst h6
        rcases Nat.lt_or_ge k es.toList.length with hk | hk
        · rw [List.getElem?_append_left hk] at hf
          exact absurd hef.symm (h2 f (List.mem_of_getElem? hf))
        · rw [List.getElem?_append_right hk] at hf
          have h7 := (List.getElem?_eq_some_iff.1 hf).1
          simp only [List.length_singleton] at h5 h7
          omega
    · intro e he q d hq hd
      rw [Array.toList_push, List.mem_append, List.mem_singleton] at he
      unfold putT
      rcases he with he | rfl
      · have hne : q ≠ p := fun e2 => h2 e he (by rw [hq, e2])
        rw [if_neg hne]
        exact hs.got e he q d hq hd
      · have := pk_inj hq
        rw [if_pos this.symm]
        simp at hd
        rw [hd]
    · intro q d hq
      unfold putT at hq
      rw [Array.toList_push]
      split at hq
      · rename_i e
        exact ⟨_, List.mem_append_right _ (List.mem_singleton.2 rfl), by rw [e]⟩
      · obtain ⟨e, he, hk⟩ := hs.has q d hq
        exact ⟨e, List.mem_append_left _ he, hk⟩
  · rw [h1] at hfe
    have hj : j < es.size := by have := (List.getElem?_eq_some_iff.1 h2).1; simpa using this
    have hj2 : es[j]? = some e0 := by rw [← Array.getElem?_toList]; exact h2
    have hkey : (((es[j]?).map (·.key)).getD (pk p)) = pk p := by rw [hj2]; exact h3
    have hst := stays_pair p w
    have hml : (es.modify j fun e => { e with key := pk p, val := .int .i64 c }).toList = es.toList.set j { e0 with key := pk p, val := .int .i64 c } := by
      rw [Array.toList_modify]
      apply List.ext_getElem?
      intro k
      rw [List.getElem?_modify, List.getElem?_set]
      by_cases hjk : j = k
      · subst hjk
        rw [h2]
        simp [hj]
      · simp [hjk]
    refine ⟨setBlock w b (.map (es.modify j fun e => { e with key := pk p, val := .int .i64 c }) clock), ?_, ⟨es.modify j fun e => { e with key := pk p, val := .int .i64 c }, clock, by simp [setBlock, hbl], ?_, ?_, ?_, ?_⟩, hkeep _, rfl, rfl, rfl⟩
    · simp [Instr.mapUpdate, run_underlying Try.underlying119, MapKept.run_getObj_map hb, hck, hfe, hkey, hst, MapKept.run_setObj_map _ hb, Result.andThen, setBlock]
    · intro e he
      rw [hml] at he
      rcases List.mem_or_eq_of_mem_set he with he | rfl
      · exact hs.keys e he
      · exact ⟨p, c, rfl, rfl⟩
    · intro i k e f he hf hef
      rw [hml] at he hf
      have hat : ∀ (i : Nat) (e : MapEntry), (es.toList.set j { e0 with key := pk p, val := .int .i64 c })[i]? = some e → ∃ e', es.toList[i]? = some e' ∧ e'.key = e.key := by
        intro i e he
        rw [List.getElem?_set] at he
        split at he
        · rename_i hij
          subst hij
          split at he
          · injection he with he
            exact ⟨e0, h2, by rw [← he]; exact h3⟩
          · cases he
        · exact ⟨e, he, rfl⟩
      obtain ⟨e', he', hk1⟩ := hat i e he
      obtain ⟨f', hf', hk2⟩ := hat k f hf
      exact hs.one i k e' f' he' hf' (by rw [hk1, hk2, hef])
    · intro e he q d hq hd
      rw [hml] at he
      obtain ⟨i, hi⟩ := List.mem_iff_getElem?.1 he
      rw [List.getElem?_set] at hi
      unfold putT
      split at hi
      · split at hi
        · have hi2 := Option.some.inj hi
          rw [← hi2] at hq hd
          have hpq : p = q := pk_inj hq
          have hcd : c = d := by have := hd; simpa using this
          rw [if_pos hpq.symm, hcd]
        · cases hi
      · rename_i hij
        have hne : q ≠ p := fun e2 => hij (hs.one j i e0 e h2 hi (by rw [h3, hq, e2]))
        rw [if_neg hne]
        exact hs.got e (List.mem_of_getElem? hi) q d hq hd
    · intro q d hq
      unfold putT at hq
      rw [hml]
      split at hq
      · rename_i e
        exact ⟨_, List.mem_set (by simpa using hj) _, by rw [e]⟩
      · rename_i hne
        obtain ⟨e, he, hk⟩ := hs.has q d hq
        obtain ⟨i, hi⟩ := List.mem_iff_getElem?.1 he
        have hij : j ≠ i := fun e2 => by
          subst e2
          rw [h2] at hi
          injection hi with hi
          subst hi
          exact hne (pk_inj (hk.symm.trans h3))
        exact ⟨e, List.mem_iff_getElem?.2 ⟨i, by rw [List.getElem?_set_ne hij]; exact hi⟩, hk⟩
end Go.Proofs.Ytimnhbndokfgnaa
