/- The list of objects that the document's answer has (marginaliaref06.Store), as it lies in memory: the same thought-of store. No walk here. -/
import Derived.Test.YtioidaojnbenbaaStLaw
namespace Go.Proofs.Ytioidaojnbenbaa
open Go.RowKit

/-- The cells of an object's piece: none stands in it. -/
def pxC : Option Px → List Value
  | none => [.int .i64 0, .string ⟨#[]⟩, .bool false, .slice none 0 0, .slice none 0 0, .int .i64 0, .slice none 0 0, .slice none 0 0]
  | some p => [.int .i64 p.k, .string p.t, .bool p.ng, .slice none 0 0, .slice none 0 0, .int .i64 p.a, .slice none 0 0, .slice none 0 0]
structure RO where
  o : Ob
  sv : Value
def roL (m : RO) : List Value := .int .i64 m.o.k :: m.sv :: pxC m.o.x
def roLs (ms : List RO) : List Value := ms.flatMap roL
theorem pxC_len (x : Option Px) : (pxC x).length = 8 := by cases x <;> rfl
theorem roL_len (m : RO) : (roL m).length = 10 := by simp [roL, pxC_len]
theorem roLs_append (l m : List RO) : roLs (l ++ m) = roLs l ++ roLs m := by simp [roLs]
theorem roLs_one (m : RO) : roLs [m] = roL m := by simp [roLs]
theorem roLs_len (l : List RO) : (roLs l).length = l.length * 10 := by
  induction l with
  | nil => rfl
  | cons x l ih => show (roL x ++ roLs l).length = _; rw [List.length_append, ih, roL_len]; simp only [List.length_cons]; omega
theorem roLs_get : ∀ (l : List RO) (i : Nat) (h : i < l.length) (j : Nat), j < 10 → (roLs l)[i * 10 + j]? = (roL (l[i]'h))[j]?
  | [], i, h, _, _ => by simp at h
  | x :: l, 0, _, j, hj => by
    show (roL x ++ roLs l)[0 * 10 + j]? = _
    rw [Nat.zero_mul, Nat.zero_add, List.getElem?_append_left (by rw [roL_len]; exact hj)]
    rfl
  | x :: l, i + 1, h, j, hj => by
    have := roLs_get l i (by simpa using h) j hj
    show (roL x ++ roLs l)[(i + 1) * 10 + j]? = _
    rw [List.getElem?_append_right (by rw [roL_len]; omega), roL_len, show (i + 1) * 10 + j - 10 = i * 10 + j by omega, this]
    rfl
theorem roLs_set : ∀ (l : List RO) (i : Nat) (h : i < l.length) (m : RO), roL m = roL (l[i]'h) → roLs (l.set i m) = roLs l
  | [], i, h, _, _ => by simp at h
  | y :: l, 0, _, m, e => by
    simp only [List.getElem_cons_zero] at e
    simp [roLs, e]
  | y :: l, i + 1, h, m, e => by
    have := roLs_set l i (by simpa using h) m (by simpa using e)
    simp only [roLs, List.set_cons_succ, List.flatMap_cons] at this ⊢
    rw [this]
theorem roL_one (m : RO) (hs : m.sv.oneCell' = true) : ∀ u ∈ roL m, u.oneCell' = true := by
  intro u hu
  unfold roL at hu
  rcases List.mem_cons.1 hu with rfl | hu
  · rfl
  rcases List.mem_cons.1 hu with rfl | hu
  · exact hs
  cases hx : m.o.x with
  | none => rw [hx] at hu; simp [pxC] at hu; rcases hu with rfl | rfl | rfl | rfl | rfl | rfl | rfl | rfl <;> rfl
  | some p => rw [hx] at hu; simp [pxC] at hu; rcases hu with rfl | rfl | rfl | rfl | rfl | rfl | rfl | rfl <;> rfl

/-- THE LIST in block g. Roles: 1 its box, 2 the objects' row, 3 the names', 6 and more the slots of each object. -/
structure RsM (w : World) (g : Nat) (Q : Nat → Nat) (s : St) (ms : List RO) (ov nv : Value) : Prop where
  ok : s.Ok
  eqs : s.os = ms.map RO.o
  lt : ∀ b, Q b ≠ 0 → b < w.heap.size
  gQ : Q g = 1
  box : w.heap[g]? = some (.cells #[.int .i64 (s.L : Nat), .int .i64 (s.U : Nat), ov, nv] 32 (0, 0))
  orow : w.ownsRow 0 83 10 ov ms.length (roLs ms)
  oQ : ∀ b, ov.ownBlock = some b → Q b = 2
  srow : ∀ i (hi : i < ms.length), w.ownsRow 0 35 2 (ms[i]'hi).sv (ms[i]'hi).o.s.length (vcs (ms[i]'hi).o.s)
  sQ : ∀ i (hi : i < ms.length) b, (ms[i]'hi).sv.ownBlock = some b → Q b = 6 + i
  nrow : w.ownsRow 0 9 1 nv s.ns.length (s.ns.map Value.string)
  nQ : ∀ b, nv.ownBlock = some b → Q b = 3
theorem RsM.glt {w : World} {g : Nat} {Q : Nat → Nat} {s : St} {ms : List RO} {ov nv : Value} (h : RsM w g Q s ms ov nv) : g < w.heap.size := h.lt g (by rw [h.gQ]; omega)
theorem RsM.len {w : World} {g : Nat} {Q : Nat → Nat} {s : St} {ms : List RO} {ov nv : Value} (h : RsM w g Q s ms ov nv) : s.os.length = ms.length := by rw [h.eqs, List.length_map]
theorem RsM.keep {w w' : World} {g : Nat} {Q : Nat → Nat} {s : St} {ms : List RO} {ov nv : Value} (h : RsM w g Q s ms ov nv) (hk : Keeps (fun b => Q b ≠ 0) w w') : RsM w' g Q s ms ov nv where
  ok := h.ok
  eqs := h.eqs
  lt b hb := Nat.lt_of_lt_of_le (h.lt b hb) hk.1
  gQ := h.gQ
  box := (hk.2 g h.glt (by have := h.gQ; omega)).trans h.box
  orow := ownsRow_keep h.orow hk fun b hb => by have := h.oQ b hb; omega
  oQ := h.oQ
  srow i hi := ownsRow_keep (h.srow i hi) hk fun b hb => by have := h.sQ i hi b hb; omega
  sQ := h.sQ
  nrow := ownsRow_keep h.nrow hk fun b hb => by have := h.nQ b hb; omega
  nQ := h.nQ
theorem RsM.below {w w' : World} {g : Nat} {Q : Nat → Nat} {s : St} {ms : List RO} {ov nv : Value} (h : RsM w g Q s ms ov nv) (hb : Below w.heap.size w w') : RsM w' g Q s ms ov nv := h.keep (Keeps.of_below hb)
theorem RsM.boxf {w : World} {g : Nat} {Q : Nat → Nat} {s : St} {ms : List RO} {ov nv : Value} (h : RsM w g Q s ms ov nv) :
    (w.cell? ⟨g, 0, none⟩ = some (.int .i64 (s.L : Nat)) ∧ w.cell? ⟨g, 1, none⟩ = some (.int .i64 (s.U : Nat)) ∧ w.cell? ⟨g, 2, none⟩ = some ov ∧ w.cell? ⟨g, 3, none⟩ = some nv) ∧ w.frozen? ⟨g, 1, none⟩ = false ∧ w.frozen? ⟨g, 2, none⟩ = false ∧ w.frozen? ⟨g, 3, none⟩ = false :=
  ⟨⟨cell_heap h.box 0, cell_heap h.box 1, cell_heap h.box 2, cell_heap h.box 3⟩, frozen_heap h.box 1, frozen_heap h.box 2, frozen_heap h.box 3⟩
/-- An object's kind and slots. -/
theorem RsM.objAt {w : World} {g : Nat} {Q : Nat → Nat} {s : St} {ms : List RO} {ov nv : Value} (h : RsM w g Q s ms ov nv) {i : Nat} (hi : i < ms.length) :
    ∃ b cap, ov = .slice (some ⟨b, 0, none⟩) ms.length cap ∧ ms.length ≤ cap ∧ Q b = 2 ∧ b < w.heap.size ∧ w.cell? ⟨b, i * 10, none⟩ = some (.int .i64 (ms[i]'hi).o.k) ∧ w.cell? ⟨b, i * 10 + 1, none⟩ = some (ms[i]'hi).sv := by
  have ho := h.orow
  rcases ho.2 with ⟨_, h0⟩ | ⟨b, cap, cur, e, _, hc, hn, _, _, ht⟩
  · omega
  · have hcell := ho.cells (g := b) (by rw [e]; rfl)
    have g0 := roLs_get ms i hi 0 (by omega)
    have g1 := roLs_get ms i hi 1 (by omega)
    refine ⟨b, cap, e, hn, h.oQ b (by rw [e]; rfl), (Array.getElem?_eq_some_iff.1 hc).1, ?_, ?_⟩
    · have := hcell _ _ (g0.trans rfl); rwa [Addr.add_mid, Nat.zero_add] at this
    · have := hcell _ _ (g1.trans rfl); rwa [Addr.add_mid, Nat.zero_add] at this
/-- A slot's two cells. -/
theorem RsM.slotAt {w : World} {g : Nat} {Q : Nat → Nat} {s : St} {ms : List RO} {ov nv : Value} (h : RsM w g Q s ms ov nv) {i : Nat} (hi : i < ms.length) {j : Nat} (hj : j < (ms[i]'hi).o.s.length) :
    ∃ b cap, (ms[i]'hi).sv = .slice (some ⟨b, 0, none⟩) (ms[i]'hi).o.s.length cap ∧ (ms[i]'hi).o.s.length ≤ cap ∧ Q b = 6 + i ∧ b < w.heap.size ∧ w.cell? ⟨b, j * 2, none⟩ = some (.int .i64 ((ms[i]'hi).o.s[j]'hj).1) ∧ w.cell? ⟨b, j * 2 + 1, none⟩ = some (.int .i64 ((ms[i]'hi).o.s[j]'hj).2) ∧ (∀ o, w.frozen? ⟨b, o, none⟩ = false) := by
  have ho := h.srow i hi
  rcases ho.2 with ⟨_, h0⟩ | ⟨b, cap, cur, e, _, hc, hn, _, _, ht⟩
  · omega
  · have hcell := ho.cells (g := b) (by rw [e]; rfl)
    obtain ⟨g0, g1⟩ := vcs_get (ms[i]'hi).o.s j hj
    refine ⟨b, cap, e, hn, h.sQ i hi b (by rw [e]; rfl), (Array.getElem?_eq_some_iff.1 hc).1, ?_, ?_, fun o => frozen_heap hc o⟩
    · have := hcell _ _ g0; rwa [Addr.add_mid, Nat.zero_add] at this
    · have := hcell _ _ g1; rwa [Addr.add_mid, Nat.zero_add] at this
theorem put_mem {s : St} {i j : Nat} {x : Int × Int} : ∀ o ∈ (s.put i j x).os, ∃ o' ∈ s.os, o = o' ∨ o = o'.put j x := by
  intro o ho
  obtain ⟨k, hk, rfl⟩ := List.getElem_of_mem ho
  have hk2 : k < s.os.length := by simpa [St.put] using hk
  refine ⟨s.os[k], List.getElem_mem hk2, ?_⟩
  simp only [St.put, List.getElem_modify]
  split
  · exact .inr rfl
  · exact .inl rfl
theorem St.Ok.put {s : St} (h : s.Ok) (i j : Nat) {x : Int × Int} (hx : sdV s.os.length s.ns.length x = true) : (s.put i j x).Ok := by
  have hlen : (s.put i j x).os.length = s.os.length := by simp [St.put]
  have hcs : ((s.put i j x).os.map Ob.c) = s.os.map Ob.c := by
    apply List.ext_getElem?
    intro k
    simp only [St.put, List.getElem?_map, List.getElem?_modify]
    cases s.os[k]? with
    | none => simp
    | some o => by_cases hki : i = k <;> simp [hki, Ob.put]
  refine ⟨h.UL, h.LM, by rw [hcs]; exact h.sum, fun o ho => ?_, fun o ho v hv => ?_, h.nd, h.nl⟩
  · obtain ⟨o', ho', rfl | rfl⟩ := put_mem o ho
    · exact h.cpos o ho'
    · have := h.cpos o' ho'
      simpa [Ob.put] using this
  · rw [hlen]
    obtain ⟨o', ho', rfl | rfl⟩ := put_mem o ho
    · exact h.snd o ho' v hv
    · rcases List.mem_or_eq_of_mem_set hv with hv | rfl
      · exact h.snd o' ho' v hv
      · exact hx
/-- A slot is set. -/
theorem RsM.put {w : World} {g : Nat} {Q : Nat → Nat} {s : St} {ms : List RO} {ov nv : Value} (h : RsM w g Q s ms ov nv) {i : Nat} (hi : i < ms.length) {j : Nat} (hj : j < (ms[i]'hi).o.s.length) (x : Int × Int) (hx : sdV s.os.length s.ns.length x = true) {b cap : Nat} (hsv : (ms[i]'hi).sv = .slice (some ⟨b, 0, none⟩) (ms[i]'hi).o.s.length cap) :
    ∃ ms', RsM ((w.setCell ⟨b, j * 2, none⟩ (.int .i64 x.1)).setCell ⟨b, j * 2 + 1, none⟩ (.int .i64 x.2)) g Q (s.put i j x) ms' ov nv := by
  have hb : Q b = 6 + i := h.sQ i hi b (by rw [hsv]; rfl)
  have hk : Keeps (fun b' => b' ≠ b) w ((w.setCell ⟨b, j * 2, none⟩ (.int .i64 x.1)).setCell ⟨b, j * 2 + 1, none⟩ (.int .i64 x.2)) := ((Keeps.refl _ _).set (fun h => h rfl) _).set (fun h => h rfl) _
  have hrow := h.srow i hi
  rw [hsv] at hrow
  have hrow2 := ownsRow_set (ownsRow_set hrow (j := j * 2) (by rw [vcs_len]; omega) (.int .i64 x.1)) (j := j * 2 + 1) (by rw [List.length_set, vcs_len]; omega) (.int .i64 x.2)
  rw [← vcs_set _ _ hj] at hrow2
  have hset : (ms.set i ⟨(ms[i]'hi).o.put j x, (ms[i]'hi).sv⟩).map RO.o = s.os.modify i fun o => o.put j x := by
    rw [h.eqs, List.map_set]
    apply List.ext_getElem?
    intro k
    rw [List.getElem?_modify, List.getElem?_set]
    by_cases hki : i = k
    · subst hki
      simp [hi]
    · simp [hki]
  have hlenm : (ms.set i ⟨(ms[i]'hi).o.put j x, (ms[i]'hi).sv⟩).length = ms.length := List.length_set
  have hat : ∀ (k : Nat) (hk : k < (ms.set i ⟨(ms[i]'hi).o.put j x, (ms[i]'hi).sv⟩).length), (ms.set i ⟨(ms[i]'hi).o.put j x, (ms[i]'hi).sv⟩)[k] = if i = k then ⟨(ms[i]'hi).o.put j x, (ms[i]'hi).sv⟩ else ms[k]'(by omega) := by
    intro k hk
    rw [List.getElem_set]
  refine ⟨ms.set i ⟨(ms[i]'hi).o.put j x, (ms[i]'hi).sv⟩, ?_⟩
  refine ⟨h.ok.put i j hx, by rw [hset]; rfl, fun b' hb' => by have := h.lt b' hb'; simpa using this, h.gQ, ?_, ?_, h.oQ, fun k hk' => ?_, fun k hk' => ?_, ?_, h.nQ⟩
  · exact (hk.2 g h.glt (fun e => by have := h.gQ; rw [e] at this; omega)).trans h.box
  · rw [hlenm, roLs_set ms i hi ⟨(ms[i]'hi).o.put j x, (ms[i]'hi).sv⟩ rfl]
    exact ownsRow_keep h.orow hk fun b' hb' e => by have := h.oQ b' hb'; rw [e] at this; omega
  · rw [hat k hk']
    by_cases hki : i = k
    · subst hki
      rw [if_pos rfl]
      have hl2 : ((ms[i]'hi).o.put j x).s.length = (ms[i]'hi).o.s.length := by simp [Ob.put]
      show World.ownsRow _ 0 _ 2 (ms[i]'hi).sv ((ms[i]'hi).o.put j x).s.length _
      rw [hl2, hsv]
      exact hrow2
    · rw [if_neg hki]
      refine ownsRow_keep (h.srow k (by omega)) hk fun b' hb' e => ?_
      have := h.sQ k (by omega) b' hb'
      rw [e] at this
      omega
  · rw [hat k hk']
    by_cases hki : i = k
    · subst hki
      rw [if_pos rfl]
      exact h.sQ i hi
    · rw [if_neg hki]
      exact h.sQ k (by omega)
  · exact ownsRow_keep h.nrow hk fun b' hb' e => by have := h.nQ b' hb'; rw [e] at this; omega
theorem St.Ok.add {s : St} (h : s.Ok) {o : Ob} (hc : o.s.length + 1 ≤ o.c) (hr : s.U + o.c ≤ s.L) (hsn : o.s.all (sdV s.os.length s.ns.length) = true) : (s.add o).Ok := by
  have hmore : ∀ v, sdV s.os.length s.ns.length v = true → sdV (s.os ++ [o]).length s.ns.length v = true := by
    intro v hv'
    by_cases h7 : v.1 = 7
    · rw [sdV_obj h7] at hv' ⊢
      simp only [decide_eq_true_iff] at hv' ⊢
      rw [List.length_append]
      simp only [List.length_singleton]
      omega
    · unfold sdV at hv' ⊢
      simpa [h7] using hv'
  refine ⟨hr, h.LM, ?_, fun o' ho' => ?_, fun o' ho' v hv => hmore v ?_, h.nd, h.nl⟩
  · show ((s.os ++ [o]).map Ob.c).sum = s.U + o.c
    rw [List.map_append, List.sum_append, h.sum]
    simp
  · rcases List.mem_append.1 ho' with ho' | ho'
    · exact h.cpos o' ho'
    · obtain rfl := List.mem_singleton.1 ho'
      exact hc
  · rcases List.mem_append.1 ho' with ho' | ho'
    · exact h.snd o' ho' v hv
    · obtain rfl := List.mem_singleton.1 ho'
      exact List.all_eq_true.1 hsn v hv
/-- An object more: its row of slots was nobody's. -/
theorem RsM.add {w w1 w' w2 : World} {g : Nat} {Q : Nat → Nat} {s : St} {ms : List RO} {ov nv : Value} (h : RsM w g Q s ms ov nv) {m : RO} (hs : w.ownsRow 0 35 2 m.sv m.o.s.length (vcs m.o.s)) (hsQ : ∀ b, m.sv.ownBlock = some b → Q b = 0)
    {ov' : Value} (ho : w'.ownsRow 0 83 10 ov' (ms.length + 1) (roLs ms ++ roL m)) (hk0 : Keeps (fun b => b ≠ g) w w1) (hg : w1.grownBy w' ov.ownBlock) (hm : MovedTo w1 ov ov') (hc : m.o.s.length + 1 ≤ m.o.c) (hr : s.U + m.o.c ≤ s.L) (hsn : m.o.s.all (sdV s.os.length s.ns.length) = true)
    (hw2 : w2.heap[g]? = some (.cells #[.int .i64 (s.L : Nat), .int .i64 ((s.U + m.o.c : Nat) : Int), ov', nv] 32 (0, 0))) (hk2 : Keeps (fun b => b ≠ g) w' w2) :
    ∃ Q', RsM w2 g Q' (s.add m.o) (ms ++ [m]) ov' nv ∧ (∀ b, Q b ≠ 0 → Q' b = Q b) ∧ ∀ b, Q' b ≠ 0 → Q b ≠ 0 ∨ m.sv.ownBlock = some b ∨ w1.heap.size ≤ b := by
  classical
  have hov : ∀ b, ov'.ownBlock = some b → Q b = 2 ∨ w1.heap.size ≤ b := fun b hb => by
    rcases hm with e | ⟨b2, e, hge⟩
    · exact .inl (h.oQ b (e ▸ hb))
    · rw [e] at hb; injection hb with hb; exact .inr (by omega)
  have hslt : ∀ b, m.sv.ownBlock = some b → b < w.heap.size := fun b hb => (hs.lt b hb).2
  have hsz : w.heap.size ≤ w2.heap.size := Nat.le_trans hk0.1 (Nat.le_trans hg.size hk2.1)
  have hk1 : Keeps (fun b => Q b ≠ 2) w1 w' := Keeps.of_grown hg fun b hb hn => hn (h.oQ b hb)
  have hk : Keeps (fun b => Q b ≠ 2 ∧ b ≠ g) w w2 := ((hk0.mono fun _ _ h => h.2).trans (hk1.mono fun _ _ h => h.1)).trans (hk2.mono fun _ _ h => h.2)
  have hgQ := h.gQ
  have hng : ∀ b, Q b ≠ 1 → b ≠ g := fun b hb e => hb (by rw [e]; exact hgQ)
  refine ⟨fun b => if Q b ≠ 0 then Q b else if m.sv.ownBlock = some b then 6 + ms.length else if ov'.ownBlock = some b then 2 else 0, ?_, fun b hb => by simp only [if_pos hb], fun b hb => ?_⟩
  · have hold : ∀ b, Q b ≠ 0 → (if Q b ≠ 0 then Q b else if m.sv.ownBlock = some b then 6 + ms.length else if ov'.ownBlock = some b then 2 else 0) = Q b := fun b hb => if_pos hb
    refine ⟨h.ok.add hc hr hsn, ?_, fun b hb => ?_, ?_, hw2, ?_, fun b hb => ?_, fun k hk' => ?_, fun k hk' b hb => ?_, ?_, fun b hb => ?_⟩
    · show s.os ++ [m.o] = _
      rw [h.eqs]; simp
    · by_cases h0 : Q b ≠ 0
      · exact Nat.lt_of_lt_of_le (h.lt b h0) hsz
      · simp only [if_neg h0] at hb
        by_cases h1 : m.sv.ownBlock = some b
        · exact Nat.lt_of_lt_of_le (hslt b h1) hsz
        · simp only [if_neg h1] at hb
          by_cases h3 : ov'.ownBlock = some b
          · exact Nat.lt_of_lt_of_le (ho.lt b h3).2 hk2.1
          · simp [h3] at hb
    · rw [hold g (by rw [hgQ]; omega)]; exact hgQ
    · have e1 : roLs (ms ++ [m]) = roLs ms ++ roL m := by rw [roLs_append, roLs_one]
      rw [e1, List.length_append]
      refine ownsRow_keep ho hk2 fun b hb e => ?_
      subst e
      rcases hov b hb with e | e
      · omega
      · have := h.glt; have := hk0.1; omega
    · rcases hov b hb with e | e
      · rw [hold b (by omega)]; exact e
      · have h0 : Q b = 0 := Classical.byContradiction fun hn => by have := h.lt b hn; have := hk0.1; omega
        have h1 : m.sv.ownBlock ≠ some b := fun e2 => by have := hslt b e2; have := hk0.1; omega
        simp [h0, h1, hb]
    · rcases Nat.lt_or_ge k ms.length with hk3 | hk3
      · rw [List.getElem_append_left hk3]
        refine ownsRow_keep (h.srow k hk3) hk fun b hb => ?_
        have := h.sQ k hk3 b hb
        exact ⟨by omega, hng b (by omega)⟩
      · obtain rfl : k = ms.length := by simp at hk'; omega
        rw [List.getElem_append_right (Nat.le_refl _)]
        simp only [Nat.sub_self, List.getElem_singleton]
        refine ownsRow_keep hs hk fun b hb => ?_
        have := hsQ b hb
        exact ⟨by omega, hng b (by omega)⟩
    · rcases Nat.lt_or_ge k ms.length with hk3 | hk3
      · rw [List.getElem_append_left hk3] at hb
        have := h.sQ k hk3 b hb
        rw [hold b (by omega)]; exact this
      · obtain rfl : k = ms.length := by simp at hk'; omega
        rw [List.getElem_append_right (Nat.le_refl _)] at hb
        simp only [Nat.sub_self, List.getElem_singleton] at hb
        have := hsQ b hb
        simp [this, hb]
    · refine ownsRow_keep h.nrow hk fun b hb => ?_
      have := h.nQ b hb
      exact ⟨by omega, hng b (by omega)⟩
    · have := h.nQ b hb
      rw [hold b (by omega)]; exact this
  · by_cases h0 : Q b ≠ 0
    · exact .inl h0
    · simp only [if_neg h0] at hb
      by_cases h1 : m.sv.ownBlock = some b
      · exact .inr (.inl h1)
      · simp only [if_neg h1] at hb
        by_cases h3 : ov'.ownBlock = some b
        · rcases hov b h3 with e | e
          · exact absurd e (by omega)
          · exact .inr (.inr e)
        · simp [h3] at hb
/-- However it lies. -/
def RsW (w : World) (g : Nat) (Q : Nat → Nat) (s : St) : Prop := ∃ ms ov nv, RsM w g Q s ms ov nv
theorem RsW.keep {w w' : World} {g : Nat} {Q : Nat → Nat} {s : St} (h : RsW w g Q s) (hk : Keeps (fun b => Q b ≠ 0) w w') : RsW w' g Q s := by
  obtain ⟨ms, ov, nv, h⟩ := h; exact ⟨ms, ov, nv, h.keep hk⟩
theorem RsW.below {w w' : World} {g : Nat} {Q : Nat → Nat} {s : St} (h : RsW w g Q s) (hb : Below w.heap.size w w') : RsW w' g Q s := h.keep (Keeps.of_below hb)
theorem RsW.lt {w : World} {g : Nat} {Q : Nat → Nat} {s : St} (h : RsW w g Q s) : ∀ b, Q b ≠ 0 → b < w.heap.size := by
  obtain ⟨ms, ov, nv, h⟩ := h; exact h.lt
theorem RsW.ok {w : World} {g : Nat} {Q : Nat → Nat} {s : St} (h : RsW w g Q s) : s.Ok := by
  obtain ⟨ms, ov, nv, h⟩ := h; exact h.ok
/-- What a call leaves. -/
def RsP (w : World) (g : Nat) (Q : Nat → Nat) (s : St) (w' : World) : Prop := ∃ Q', RsW w' g Q' s ∧ Fr Q w w' ∧ ∀ b, b < w.heap.size → (Q' b = 0 ↔ Q b = 0)
theorem RsP.of_below {w w' : World} {g : Nat} {Q : Nat → Nat} {s : St} (h : RsW w g Q s) (hb : Below w.heap.size w w') : RsP w g Q s w' := ⟨Q, h.below hb, Fr.of_below hb, fun _ _ => Iff.rfl⟩
theorem RsP.after {w w1 w2 : World} {g : Nat} {Q : Nat → Nat} {s : St} (hb : Below w.heap.size w w1) (h : RsP w1 g Q s w2) : RsP w g Q s w2 := by
  obtain ⟨Q', h1, h2, h3⟩ := h
  exact ⟨Q', h1, (Fr.of_below hb).tr h2, fun b hl => h3 b (Nat.lt_of_lt_of_le hl hb.size)⟩
/-- A new one. -/
theorem rsw_new (w : World) (L : Nat) (hL : L ≤ 1048576) : RsW (w.alloc (.cells #[.int .i64 (L : Nat), .int .i64 0, .slice none 0 0, .slice none 0 0] 32)) w.heap.size (Rnew w.heap.size) (St.new L) := by
  refine ⟨[], .slice none 0 0, .slice none 0 0, ⟨⟨Nat.zero_le _, hL, rfl, fun o ho => (by cases ho), fun o ho => (by cases ho), List.nodup_nil, Nat.zero_le _⟩, rfl, fun b hb => ?_, ?_, heap_alloc_new w _, World.ownsRow_nil _ _ _ _, fun b hb => (by cases hb), fun i hi => (by simp at hi), fun i hi => (by simp at hi), World.ownsRow_nil _ _ _ _, fun b hb => (by cases hb)⟩⟩
  · rw [Rnew_ne hb]; simp
  · simp [Rnew]
end Go.Proofs.Ytioidaojnbenbaa
