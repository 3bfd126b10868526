/- A store's names in memory: the map looked into and written; a name more. No walk here. -/
import Derived.Test.YtioidaojnbenbaaStSym
import Derived.Test.YtioidaojnbenbaaStMake
import Derived.Maps.OwnOps
namespace Go.Proofs.Ytioidaojnbenbaa
open Go.RowKit Go.MapKept
open Go.ChangeMaps (setBlock)

theorem zeroInt (w : World) : (zeroValue 3).run Try.prog w = .ok (.int .i64 0) w := by kernel_rfl
theorem isStr (t : ByteArray) : IsKey .string (.string t) := by simp [IsKey]
theorem look_nil (t : ByteArray) (w : World) : (Instr.lookup 67 (.map none) (.string t) true).run Try.prog w = .ok (.tuple #[.int .i64 0, .bool false]) w := by
  rcases findNow_spec (isStr t) [] 0 (by simp) with ⟨h1, _⟩ | ⟨j, e, _, h, _⟩
  · simp [Instr.lookup, run_underlying Try.underlying67, run_checkKey Try.underlying9 (isStr t), run_findKey Try.underlying9 h1, Result.andThen]
  · simp at h
theorem MapS.strs {es : Array MapEntry} {ns : List ByteArray} (hs : es.size = ns.length) (he : ∀ i (h : i < ns.length), ∃ e, es[i]? = some e ∧ e.key = .string (ns[i]'h) ∧ e.val = .int .i64 (i : Nat)) : ∀ x ∈ es.toList, IsKey .string x.key := by
  intro x hx
  obtain ⟨i, hi⟩ := List.mem_iff_getElem?.1 hx
  have hi2 : i < ns.length := by
    have := (List.getElem?_eq_some_iff.1 hi).1
    simp at this
    omega
  obtain ⟨e, h1, h2, _⟩ := he i hi2
  rw [Array.getElem?_toList, h1] at hi
  injection hi with hi
  subst hi
  rw [h2]
  exact isStr _
theorem MapS.look {w : World} {b : Nat} {ns : List ByteArray} (h : MapS w b ns) (t : ByteArray) :
    (t ∉ ns ∧ (Instr.lookup 67 (.map (some b)) (.string t) true).run Try.prog w = .ok (.tuple #[.int .i64 0, .bool false]) w) ∨
    ∃ j, ∃ hj : j < ns.length, ns[j]'hj = t ∧ (Instr.lookup 67 (.map (some b)) (.string t) true).run Try.prog w = .ok (.tuple #[.int .i64 (j : Nat), .bool true]) w := by
  obtain ⟨es, clock, hb, hs, he⟩ := h
  rcases findNow_spec (isStr t) es.toList 0 (MapS.strs hs he) with ⟨h1, h2⟩ | ⟨j, e0, h1, h2, h3⟩
  · refine .inl ⟨fun hm => ?_, by simp [Instr.lookup, run_underlying Try.underlying67, MapKept.run_getObj_map hb, run_checkKey Try.underlying9 (isStr t), run_findKey Try.underlying9 h1, Result.andThen]⟩
    obtain ⟨i, hi, rfl⟩ := List.getElem_of_mem hm
    obtain ⟨e, g1, g2, _⟩ := he i hi
    exact h2 e (List.mem_of_getElem? (i := i) (by rw [Array.getElem?_toList]; exact g1)) g2
  · have hj : j < ns.length := by
      have := (List.getElem?_eq_some_iff.1 h2).1
      simp at this
      omega
    obtain ⟨e, g1, g2, g3⟩ := he j hj
    rw [Array.getElem?_toList, g1] at h2
    injection h2 with h2
    subst h2
    rw [h3] at g2
    injection g2 with g2
    refine .inr ⟨j, hj, g2.symm, ?_⟩
    rw [g3, Nat.zero_add] at h1
    simp [Instr.lookup, run_underlying Try.underlying67, MapKept.run_getObj_map hb, run_checkKey Try.underlying9 (isStr t), run_findKey Try.underlying9 h1, Result.andThen]
theorem MapS.put {w : World} {b : Nat} {ns : List ByteArray} (h : MapS w b ns) {t : ByteArray} (ht : t ∉ ns) : ∃ w2, (Instr.mapUpdate 67 (.map (some b)) (.string t) (.int .i64 (ns.length : Nat))).run Try.prog w = .ok () w2 ∧
    MapS w2 b (ns ++ [t]) ∧ ∀ R : Nat → Nat, R b ≠ 0 → Fr R w w2 ∧ Keeps (fun x => x ≠ b) w w2 := by
  obtain ⟨es, clock, hb, hs, he⟩ := h
  have hbl := (Array.getElem?_eq_some_iff.1 hb).1
  rcases findNow_spec (isStr t) es.toList 0 (MapS.strs hs he) with ⟨h1, h2⟩ | ⟨j, e0, h1, h2, h3⟩
  · refine ⟨setBlock w b (.map (es.push ⟨.string t, .int .i64 (ns.length : Nat), clock⟩) (clock + 1)), ?_, ⟨es.push ⟨.string t, .int .i64 (ns.length : Nat), clock⟩, clock + 1, ?_, ?_, ?_⟩, fun R hR => ⟨⟨rfl, rfl, rfl, by simp [setBlock], fun x hx h0 => ?_⟩, by simp [setBlock], fun x hx hne => ?_⟩⟩
    · simp [Instr.mapUpdate, run_underlying Try.underlying67, MapKept.run_getObj_map hb, run_checkKey Try.underlying9 (isStr t), run_findKey Try.underlying9 h1, MapKept.run_setObj_map _ hb, Result.andThen, setBlock]
    · simp [setBlock, hbl]
    · simp [hs]
    · intro i hi
      rw [List.length_append, List.length_singleton] at hi
      rcases Nat.lt_or_ge i ns.length with hlt | hge
      · obtain ⟨e, g1, g2, g3⟩ := he i hlt
        refine ⟨e, ?_, by rw [g2, List.getElem_append_left hlt], g3⟩
        rw [Array.getElem?_push, if_neg (by omega)]
        exact g1
      · obtain rfl : i = ns.length := by omega
        refine ⟨_, by rw [Array.getElem?_push, if_pos hs.symm], ?_, rfl⟩
        simp
    · have hne : b ≠ x := fun e => hR (e ▸ h0)
      simp [setBlock, hne]
    · simp [setBlock, Ne.symm hne]
  · exfalso
    have hj : j < ns.length := by
      have := (List.getElem?_eq_some_iff.1 h2).1
      simp at this
      omega
    obtain ⟨e, g1, g2, _⟩ := he j hj
    rw [Array.getElem?_toList, g1] at h2
    injection h2 with h2
    subst h2
    rw [h3] at g2
    injection g2 with g2
    exact ht (g2 ▸ List.getElem_mem hj)
theorem wpList_mapUpdate_run {P : Program} (w : World) {ops : Array Oper} {rest : List Oper} {o : Oper} {a : Act} {Q : Exit → Act → World → Prop} (hg : o.guard = none) (m x v : Operand) (t : TypeId) (hop : o.op = Op.mapUpdate t m x v)
    (mv key val : Value) (hm : a.eval m = mv) (hx : a.eval x = key) (hv : a.eval v = val) (w' : World) (hrun : (Instr.mapUpdate t mv key val).run P w = .ok () w') (hK : wpList P ops Q rest (a.put o.dst undef) w') : wpList P ops Q (o :: rest) a w := by
  refine wpList_plain hg fun K' hK' => ?_
  unfold Oper.wp
  simp [execOp, hop, hm, hx, hv, hrun, Result.andThen]
  exact hK' _ _ hK

/-- Where there was no map there is an empty one. -/
theorem StM.mkMap {w : World} {g : Nat} {R : Nat → Nat} {s : St} {ms : List OM} {ov nv : Value} (h : StM w g R s ms ov nv (.map none)) :
    ∃ R', StM ((w.setCell ⟨g, 4, none⟩ (.map (some w.heap.size))).alloc (.map #[] 0)) g R' s ms ov nv (.map (some w.heap.size)) ∧ Fr R w ((w.setCell ⟨g, 4, none⟩ (.map (some w.heap.size))).alloc (.map #[] 0)) ∧ (∀ b, b < w.heap.size → (R' b = 0 ↔ R b = 0)) ∧ ∀ b, R b ≠ 0 → R' b ≠ 0 := by
  have hgl := h.glt
  have hcomm : (w.setCell ⟨g, 4, none⟩ (.map (some w.heap.size))).alloc (.map #[] 0) = (w.alloc (.map #[] 0)).setCell ⟨g, 4, none⟩ (.map (some w.heap.size)) := (World.setCell_alloc_past (w := w) (.map #[] 0) g 4 (.map (some w.heap.size)) hgl).symm
  rw [hcomm]
  have hgR := h.gR
  have hns : s.ns = [] := by
    rcases h.map with ⟨_, h⟩ | ⟨b, h, _⟩
    · exact h
    · cases h
  have hb := h.below (below1 w (.map #[] 0))
  have hk : Keeps (fun x => x ≠ g) (w.alloc (.map #[] 0)) ((w.alloc (.map #[] 0)).setCell ⟨g, 4, none⟩ (.map (some w.heap.size))) := (Keeps.refl _ _).set (p := ⟨g, 4, none⟩) (fun h => h rfl) _
  have hng : ∀ b, R b ≠ 1 → b ≠ g := fun b hb e => hb (by rw [e]; exact hgR)
  have hold : ∀ b, R b ≠ 0 → (if b = w.heap.size then 4 else R b) = R b := fun b hb => if_neg (fun e => by have := h.lt b hb; omega)
  refine ⟨fun b => if b = w.heap.size then 4 else R b, ⟨h.ok, h.eqs, fun b hb' => ?_, ?_, rowSet hb.box 4 _, ?_, fun b hb' => ?_, fun i hi => ?_, fun i hi b hb' => ?_, fun i hi => ?_, ?_, fun b hb' => ?_, .inr ⟨_, rfl, by simp, #[], 0, ?_, by rw [hns]; rfl, fun i hi => by rw [hns] at hi; simp at hi⟩⟩, ?_, fun b hb' => by show (if b = w.heap.size then 4 else R b) = 0 ↔ _; rw [if_neg (by omega)], fun b hb' => by show (if b = w.heap.size then 4 else R b) ≠ 0; rw [hold b hb']; exact hb'⟩
  · by_cases e : b = w.heap.size
    · subst e; simp
    · rw [if_neg e] at hb'
      have := h.lt b hb'
      simp; omega
  · rw [hold g (by omega)]; exact hgR
  · exact ownsRow_keep hb.orow hk fun b hb' => hng b (by have := h.oR b hb'; omega)
  · have := h.oR b hb'
    rw [hold b (by omega)]; exact this
  · exact ownsRow_keep (hb.srow i hi) hk fun b hb' => hng b (by have := h.sR i hi b hb'; omega)
  · have := h.sR i hi b hb'
    rw [hold b (by omega)]; exact this
  · refine ((hb.prow i hi).move (hk.mono fun b _ hb' => hng b (by omega))).mono fun b _ hb' => ?_
    rw [hold b (by omega)]; exact hb'
  · exact ownsRow_keep hb.nrow hk fun b hb' => hng b (by have := h.nR b hb'; omega)
  · have := h.nR b hb'
    rw [hold b (by omega)]; exact this
  · rw [Below.heap_setCell _ _ _ _ (by simp; omega)]
    exact heap_alloc_new w _
  · exact (Fr.of_below (below1 w _)).set (p := ⟨g, 4, none⟩) (.inr (by show R g ≠ 0; omega)) _

/-- A name more. -/
theorem StM.name {w w' w2 : World} {g : Nat} {R : Nat → Nat} {s : St} {ms : List OM} {ov nv : Value} {b : Nat} (h : StM w g R s ms ov nv (.map (some b))) {t : ByteArray} (ht : t ∉ s.ns) (hl : s.ns.length < 1000000)
    {nv' : Value} (ho : w'.ownsRow 0 9 1 nv' (s.ns.length + 1) (s.ns.map Value.string ++ [.string t])) (hg : w.grownBy w' nv.ownBlock) (hm : MovedTo w nv nv')
    (hw2 : w2.heap[g]? = some (.cells #[.int .i64 (s.L : Nat), .int .i64 (s.U : Nat), ov, nv', .map (some b)] 69 (0, 0))) (hb : MapS w2 b (s.ns ++ [t])) (hk2 : Keeps (fun x => x ≠ g ∧ x ≠ b) w' w2) :
    ∃ R', StM w2 g R' (s.intern t) ms ov nv' (.map (some b)) ∧ (∀ x, R x ≠ 0 → R' x = R x) ∧ ∀ x, R' x ≠ 0 → R x ≠ 0 ∨ w.heap.size ≤ x := by
  have hbR : R b = 4 := by
    rcases h.map with ⟨h, _⟩ | ⟨b', h, h2, _⟩
    · cases h
    · injection h with h; injection h with h; subst h; exact h2
  have hgR := h.gR
  have hnv : ∀ x, nv'.ownBlock = some x → R x = 3 ∨ w.heap.size ≤ x := fun x hx => by
    rcases hm with e | ⟨b2, e, hge⟩
    · exact .inl (h.nR x (e ▸ hx))
    · rw [e] at hx; injection hx with hx; exact .inr (by omega)
  have hk1 : Keeps (fun x => R x ≠ 3) w w' := Keeps.of_grown hg fun x hx hn => hn (h.nR x hx)
  have hk : Keeps (fun x => R x ≠ 3 ∧ R x ≠ 1 ∧ R x ≠ 4) w w2 := (hk1.mono fun _ _ h => h.1).trans (hk2.mono fun x _ h => ⟨fun e => h.2.1 (by rw [e]; exact hgR), fun e => h.2.2 (by rw [e]; exact hbR)⟩)
  have hsz : w.heap.size ≤ w2.heap.size := hk.1
  have hold : ∀ x, R x ≠ 0 → (if R x ≠ 0 then R x else if nv'.ownBlock = some x then 3 else 0) = R x := fun x hx => if_pos hx
  refine ⟨fun x => if R x ≠ 0 then R x else if nv'.ownBlock = some x then 3 else 0, ⟨⟨h.ok.UL, h.ok.LM, h.ok.sum, h.ok.cpos, fun o ho' v hv => ?_, ?_, ?_⟩, h.eqs, fun x hx => ?_, ?_, hw2, ?_, fun x hx => ?_, fun i hi => ?_, fun i hi x hx => ?_, fun i hi => ?_, ?_, fun x hx => ?_, .inr ⟨b, rfl, ?_, hb⟩⟩, hold, fun x hx => ?_⟩
  · have hv' := h.ok.snd o ho' v hv
    show sdV s.os.length (s.ns ++ [t]).length v = true
    by_cases h6 : v.1 = 6
    · rw [sdV_sym h6] at hv' ⊢
      simp only [decide_eq_true_iff] at hv' ⊢
      rw [List.length_append, List.length_singleton]
      omega
    · unfold sdV at hv' ⊢
      simpa [h6] using hv'
  · show (s.ns ++ [t]).Nodup
    rw [List.nodup_append]
    exact ⟨h.ok.nd, by simp, fun a ha c hc => by rw [List.mem_singleton.1 hc]; intro e; exact ht (e ▸ ha)⟩
  · show (s.ns ++ [t]).length ≤ 1000000
    simp; omega
  · by_cases h0 : R x ≠ 0
    · exact Nat.lt_of_lt_of_le (h.lt x h0) hsz
    · simp only [if_neg h0] at hx
      by_cases h3 : nv'.ownBlock = some x
      · exact Nat.lt_of_lt_of_le (ho.lt x h3).2 hk2.1
      · simp [h3] at hx
  · rw [hold g (by omega)]; exact hgR
  · exact ownsRow_keep h.orow hk fun x hx => by have := h.oR x hx; omega
  · have := h.oR x hx
    rw [hold x (by omega)]; exact this
  · exact ownsRow_keep (h.srow i hi) hk fun x hx => by have := h.sR i hi x hx; omega
  · have := h.sR i hi x hx
    rw [hold x (by omega)]; exact this
  · refine ((h.prow i hi).move (hk.mono fun x _ hx => by omega)).mono fun x _ hx => ?_
    rw [hold x (by omega)]; exact hx
  · show World.ownsRow w2 0 _ 1 nv' (s.ns ++ [t]).length ((s.ns ++ [t]).map Value.string)
    rw [List.length_append, List.map_append]
    refine ownsRow_keep ho hk2 fun x hx => ?_
    rcases hnv x hx with e | e
    · exact ⟨fun h1 => by rw [h1] at e; omega, fun h1 => by rw [h1] at e; omega⟩
    · have h1 := h.lt g (by omega); have h2 := h.lt b (by omega); exact ⟨by omega, by omega⟩
  · rcases hnv x hx with e | e
    · rw [hold x (by omega)]; exact e
    · have h0 : R x = 0 := Classical.byContradiction fun hn => by have := h.lt x hn; omega
      simp [h0, hx]
  · exact (hold b (by omega)).trans hbR
  · by_cases h0 : R x ≠ 0
    · exact .inl h0
    · simp only [if_neg h0] at hx
      by_cases h3 : nv'.ownBlock = some x
      · rcases hnv x h3 with e | e
        · exact .inl (by omega)
        · exact .inr e
      · simp [h3] at hx
end Go.Proofs.Ytioidaojnbenbaa
