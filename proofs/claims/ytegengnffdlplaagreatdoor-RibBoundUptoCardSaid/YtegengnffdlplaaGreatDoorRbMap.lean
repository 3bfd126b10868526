/- The map of ribs' entries: looked into and written. No walk here. -/
import Derived.Test.YtegengnffdlplaaGreatDoorMem
import Derived.Laws.StructEq
import Derived.WideKeyRuns
namespace Go.Proofs.YtegengnffdlplaaGreatDoor
open Go.RowKit Go.MapKept
open Go.ChangeMaps (setBlock)

/-- A rib's number, a name, and marks as a text. -/
abbrev Ek := Int × ByteArray × ByteArray
def putE (tk : Ek → Option Int) (p : Ek) (c : Int) : Ek → Option Int := fun q => if q = p then some c else tk q
def ek (p : Ek) : Value := .agg #[.int .i64 p.1, .string p.2.1, .string p.2.2]
theorem ek_inj {p q : Ek} (h : ek p = ek q) : p = q := by
  obtain ⟨a, b, c⟩ := p
  obtain ⟨a', b', c'⟩ := q
  simp [ek] at h
  obtain ⟨rfl, rfl, rfl⟩ := h
  rfl
theorem bytes_iff {s t : ByteArray} : s.toList = t.toList ↔ s = t := ⟨fun h => Go.WideShapes.bytes_inj (by rw [ByteArray.toList_eq, ByteArray.toList_eq] at h; exact h), fun h => by rw [h]⟩
theorem zeroIntE (w : World) : (zeroValue 3).run Tryz.prog w = .ok (.int .i64 0) w := by kernel_rfl
theorem lookE_nil (p : Ek) (w : World) : (Instr.lookup 60 (.map none) (ek p) false).run Tryz.prog w = .ok (.int .i64 0) w := by kernel_rfl
set_option maxRecDepth 100000 in
theorem eq_ek (p q : Ek) (w : World) : (Op.equal 68 (ek p) (ek q)).run Tryz.prog w = .ok (decide (p = q)) w := by
  obtain ⟨a, b, c⟩ := p
  obtain ⟨a', b', c'⟩ := q
  unfold ek Op.equal Op.maxDepth
  go_simp
  by_cases h1 : a = a' <;> by_cases h2 : b = b' <;> by_cases h3 : c = c' <;> simp [h1, h2, h3, bytes_iff]
theorem check_ek (p : Ek) (w : World) : (Instr.checkKey false 10000 68 (ek p)).run Tryz.prog w = .ok () w := by kernel_rfl
theorem checkE_ek (p : Ek) (w : World) : (Instr.checkKey true 10000 68 (ek p)).run Tryz.prog w = .ok () w := by kernel_rfl
theorem find_ek (w : World) (p : Ek) : ∀ (es : List MapEntry) (i : Nat), (∀ e ∈ es, ∃ q, e.key = ek q) →
    ((Instr.findAsking 68 (ek p) es i).run Tryz.prog w = .ok none w ∧ ∀ e ∈ es, e.key ≠ ek p) ∨
    ∃ j e, (Instr.findAsking 68 (ek p) es i).run Tryz.prog w = .ok (some (i + j, e.val)) w ∧ es[j]? = some e ∧ e.key = ek p
  | [], i, _ => Or.inl ⟨by simp [Instr.findAsking], by simp⟩
  | e :: es, i, hall => by
    obtain ⟨q, hq⟩ := hall e (by simp)
    have hr := eq_ek p q w
    rw [← hq] at hr
    by_cases hpq : p = q
    · right
      subst hpq
      refine ⟨0, e, ?_, rfl, hq⟩
      simp [Instr.findAsking, hr]
    · have hne : e.key ≠ ek p := fun h => hpq (ek_inj (h.symm.trans hq))
      rcases find_ek w p es (i + 1) (fun y hy => hall y (by simp [hy])) with ⟨h1, h2⟩ | ⟨j, e', h1, h2, h3⟩
      · left
        refine ⟨by simp [Instr.findAsking, hr, hpq, h1], fun y hy => ?_⟩
        rcases List.mem_cons.1 hy with rfl | hy
        · exact hne
        · exact h2 y hy
      · right
        exact ⟨j + 1, e', by simp [Instr.findAsking, hr, hpq, h1, Nat.add_assoc, Nat.add_comm 1 j], by simpa using h2, h3⟩
theorem wideEk : (match Tryz.prog.underlying 68 with | some (.array _ _) | some (.struct _) => true | _ => false) = true := by kernel_rfl
set_option maxRecDepth 100000 in
theorem findKey_ek (w : World) (x : Value) (es : List MapEntry) : (Instr.findKey 68 x es).run Tryz.prog w = (Instr.findAsking 68 x es).run Tryz.prog w := run_findKey_eq (w := w) (k := 68) wideEk x es
/-- The map in block b says tk. -/
structure SaysE (es : Array MapEntry) (tk : Ek → Option Int) : Prop where
  keys : ∀ e ∈ es.toList, ∃ q c, e.key = ek q ∧ e.val = .int .i64 c
  one : ∀ (i j : Nat) (e f : MapEntry), es.toList[i]? = some e → es.toList[j]? = some f → e.key = f.key → i = j
  got : ∀ e ∈ es.toList, ∀ q c, e.key = ek q → e.val = .int .i64 c → tk q = some c
  has : ∀ q c, tk q = some c → ∃ e ∈ es.toList, e.key = ek q
def MapE (w : World) (b : Nat) (tk : Ek → Option Int) : Prop := ∃ es clock, w.heap[b]? = some (.map es clock) ∧ SaysE es tk
theorem MapE.move {w w' : World} {b : Nat} {tk : Ek → Option Int} (h : MapE w b tk) (hk : w'.heap[b]? = w.heap[b]?) : MapE w' b tk := by
  obtain ⟨es, c, hb, hs⟩ := h
  exact ⟨es, c, hk.trans hb, hs⟩
theorem MapE.new (w : World) : MapE (w.alloc (.map #[] 0)) w.heap.size fun _ => none :=
  ⟨#[], 0, heap_alloc_new w _, by simp, by simp, by simp, fun _ _ h => by cases h⟩
theorem MapE.look {w : World} {b : Nat} {tk : Ek → Option Int} (h : MapE w b tk) (p : Ek) :
    (tk p = none ∧ (Instr.lookup 60 (.map (some b)) (ek p) false).run Tryz.prog w = .ok (.int .i64 0) w) ∨
    ∃ c, tk p = some c ∧ (Instr.lookup 60 (.map (some b)) (ek p) false).run Tryz.prog w = .ok (.int .i64 c) w := by
  obtain ⟨es, clock, hb, hs⟩ := h
  have hck : (Instr.checkKey es.isEmpty 10000 68 (ek p)).run Tryz.prog w = .ok () w := by
    cases es.isEmpty
    · exact check_ek p w
    · exact checkE_ek p w
  have hfe := findKey_ek w (ek p) es.toList
  rcases find_ek w p es.toList 0 (fun e he => by obtain ⟨q, c, h1, _⟩ := hs.keys e he; exact ⟨q, h1⟩) with ⟨h1, h2⟩ | ⟨j, e0, h1, h2, h3⟩
  · rw [h1] at hfe
    refine .inl ⟨?_, by simp [Instr.lookup, run_underlying Tryz.underlying60, MapKept.run_getObj_map hb, hck, hfe, zeroIntE, Result.andThen]⟩
    cases htk : tk p with
    | none => rfl
    | some c =>
      obtain ⟨e, he, hk⟩ := hs.has p c htk
      exact absurd hk (h2 e he)
  · rw [h1] at hfe
    have hm := List.mem_of_getElem? h2
    obtain ⟨q, c, hk, hv⟩ := hs.keys e0 hm
    refine .inr ⟨c, hs.got e0 hm p c h3 hv, ?_⟩
    rw [hv] at hfe
    simp [Instr.lookup, run_underlying Tryz.underlying60, MapKept.run_getObj_map hb, hck, hfe, Result.andThen]
theorem stays_ek (p : Ek) (w : World) : (Instr.keyThatStays (ek p) (ek p)).run Tryz.prog w = .ok (ek p) w := by
  have hs : Instr.sameBits 10000 (ek p) (ek p) = true := by
    show Instr.sameBits (9999 + 1) (ek p) (ek p) = true
    have hb : ∀ x : ByteArray, (x == x) = true := fun x => by show (x.data == x.data) = true; exact beq_self_eq_true _
    simp [ek, Instr.sameBits, hb]
  simp [Instr.keyThatStays, hs]
theorem MapE.put {w : World} {b : Nat} {tk : Ek → Option Int} (h : MapE w b tk) (p : Ek) (c : Int) : ∃ w2, (Instr.mapUpdate 60 (.map (some b)) (ek p) (.int .i64 c)).run Tryz.prog w = .ok () w2 ∧
    MapE w2 b (putE tk p c) ∧ Keeps (fun x => x ≠ b) w w2 ∧ w2.os = w.os ∧ w2.tape = w.tape ∧ w2.output = w.output := by
  obtain ⟨es, clock, hb, hs⟩ := h
  have hbl := (Array.getElem?_eq_some_iff.1 hb).1
  have hck := check_ek p w
  have hfe := findKey_ek w (ek p) es.toList
  have hkeep : ∀ o, Keeps (fun x => x ≠ b) w (setBlock w b o) := fun o => ⟨by simp [setBlock], fun x hx hne => by simp [setBlock, Ne.symm hne]⟩
  rcases find_ek w p es.toList 0 (fun e he => by obtain ⟨q, c, h1, _⟩ := hs.keys e he; exact ⟨q, h1⟩) with ⟨h1, h2⟩ | ⟨j, e0, h1, h2, h3⟩
  · rw [h1] at hfe
    refine ⟨setBlock w b (.map (es.push ⟨ek p, .int .i64 c, clock⟩) (clock + 1)), ?_, ⟨es.push ⟨ek p, .int .i64 c, clock⟩, clock + 1, by simp [setBlock, hbl], ?_, ?_, ?_, ?_⟩, hkeep _, rfl, rfl, rfl⟩
    · simp [Instr.mapUpdate, run_underlying Tryz.underlying60, MapKept.run_getObj_map hb, hck, hfe, MapKept.run_setObj_map _ hb, Result.andThen, setBlock]
    · intro e he
      rw [Array.toList_push, List.mem_append, List.mem_singleton] at he
      rcases he with he | rfl
      · exact hs.keys e he
      · exact ⟨p, c, rfl, rfl⟩
    · intro i k e f he hf hef
      rw [Array.toList_push] at he hf
      rcases Nat.lt_or_ge i es.toList.length with hi | hi
      · rw [List.getElem?_append_left hi] at he
        rcases Nat.lt_or_ge k es.toList.length with hk | hk
        · rw [List.getElem?_append_left hk] at hf
          exact hs.one i k e f he hf hef
        · rw [List.getElem?_append_right hk] at hf
          have := (List.mem_singleton.1 (List.mem_of_getElem? hf))
          subst this
          exact absurd hef (h2 e (List.mem_of_getElem? he))
      · rw [List.getElem?_append_right hi] at he
        have h5 := (List.getElem?_eq_some_iff.1 he).1
        have h6 := (List.mem_singleton.1 (List.mem_of_getElem? he))
        subst h6
        rcases Nat.lt_or_ge k es.toList.length with hk | hk
        · rw [List.getElem?_append_left hk] at hf
          exact absurd hef.symm (h2 f (List.mem_of_getElem? hf))
        · rw [List.getElem?_append_right hk] at hf
          have h7 := (List.getElem?_eq_some_iff.1 hf).1
          simp only [List.length_singleton] at h5 h7
          omega
    · intro e he q d hq hd
      rw [Array.toList_push, List.mem_append, List.mem_singleton] at he
      unfold putE
      rcases he with he | rfl
      · have hne : q ≠ p := fun e2 => h2 e he (by rw [hq, e2])
        rw [if_neg hne]
        exact hs.got e he q d hq hd
      · have := ek_inj hq
        rw [if_pos this.symm]
        simp at hd
        rw [hd]
    · intro q d hq
      unfold putE at hq
      rw [Array.toList_push]
      split at hq
      · rename_i e
        exact ⟨_, List.mem_append_right _ (List.mem_singleton.2 rfl), by rw [e]⟩
      · obtain ⟨e, he, hk⟩ := hs.has q d hq
        exact ⟨e, List.mem_append_left _ he, hk⟩
  · rw [h1] at hfe
    have hj : j < es.size := by have := (List.getElem?_eq_some_iff.1 h2).1; simpa using this
    have hj2 : es[j]? = some e0 := by rw [← Array.getElem?_toList]; exact h2
    have hkey : (((es[j]?).map (·.key)).getD (ek p)) = ek p := by rw [hj2]; exact h3
    have hst := stays_ek p w
    have hml : (es.modify j fun e => { e with key := ek p, val := .int .i64 c }).toList = es.toList.set j { e0 with key := ek p, val := .int .i64 c } := by
      rw [Array.toList_modify]
      apply List.ext_getElem?
      intro k
      rw [List.getElem?_modify, List.getElem?_set]
      by_cases hjk : j = k
      · subst hjk
        rw [h2]
        simp [hj]
      · simp [hjk]
    refine ⟨setBlock w b (.map (es.modify j fun e => { e with key := ek p, val := .int .i64 c }) clock), ?_, ⟨es.modify j fun e => { e with key := ek p, val := .int .i64 c }, clock, by simp [setBlock, hbl], ?_, ?_, ?_, ?_⟩, hkeep _, rfl, rfl, rfl⟩
    · simp [Instr.mapUpdate, run_underlying Tryz.underlying60, MapKept.run_getObj_map hb, hck, hfe, hkey, hst, MapKept.run_setObj_map _ hb, Result.andThen, setBlock]
    · intro e he
      rw [hml] at he
      rcases List.mem_or_eq_of_mem_set he with he | rfl
      · exact hs.keys e he
      · exact ⟨p, c, rfl, rfl⟩
    · intro i k e f he hf hef
      rw [hml] at he hf
      have hat : ∀ (i : Nat) (e : MapEntry), (es.toList.set j { e0 with key := ek p, val := .int .i64 c })[i]? = some e → ∃ e', es.toList[i]? = some e' ∧ e'.key = e.key := by
        intro i e he
        rw [List.getElem?_set] at he
        split at he
        · rename_i hij
          subst hij
          split at he
          · injection he with he
            exact ⟨e0, h2, by rw [← he]; exact h3⟩
          · cases he
        · exact ⟨e, he, rfl⟩
      obtain ⟨e', he', hk1⟩ := hat i e he
      obtain ⟨f', hf', hk2⟩ := hat k f hf
      exact hs.one i k e' f' he' hf' (by rw [hk1, hk2, hef])
    · intro e he q d hq hd
      rw [hml] at he
      obtain ⟨i, hi⟩ := List.mem_iff_getElem?.1 he
      rw [List.getElem?_set] at hi
      unfold putE
      split at hi
      · split at hi
        · have hi2 := Option.some.inj hi
          rw [← hi2] at hq hd
          have hpq : p = q := ek_inj hq
          have hcd : c = d := by have := hd; simpa using this
          rw [if_pos hpq.symm, hcd]
        · cases hi
      · rename_i hij
        have hne : q ≠ p := fun e2 => hij (hs.one j i e0 e h2 hi (by rw [h3, hq, e2]))
        rw [if_neg hne]
        exact hs.got e (List.mem_of_getElem? hi) q d hq hd
    · intro q d hq
      unfold putE at hq
      rw [hml]
      split at hq
      · rename_i e
        exact ⟨_, List.mem_set (by simpa using hj) _, by rw [e]⟩
      · rename_i hne
        obtain ⟨e, he, hk⟩ := hs.has q d hq
        obtain ⟨i, hi⟩ := List.mem_iff_getElem?.1 he
        have hij : j ≠ i := fun e2 => by
          subst e2
          rw [h2] at hi
          injection hi with hi
          subst hi
          exact hne (ek_inj (hk.symm.trans h3))
        exact ⟨e, List.mem_iff_getElem?.2 ⟨i, by rw [List.getElem?_set_ne hij]; exact hi⟩, hk⟩
end Go.Proofs.YtegengnffdlplaaGreatDoor
