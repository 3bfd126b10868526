/- A store as it lies in memory, and what stays of it. No walk here. -/
import Derived.Test.YtocladhggcaokaaGreatDoorStMath
namespace Go.Proofs.YtocladhggcaokaaGreatDoor
open Go.RowKit

/-- Nothing has changed but in blocks that have a role. -/
structure Fr (R : Nat → Nat) (w w' : World) : Prop where
  os : w'.os = w.os
  tape : w'.tape = w.tape
  output : w'.output = w.output
  size : w.heap.size ≤ w'.heap.size
  blk : ∀ b, b < w.heap.size → R b = 0 → w'.heap[b]? = w.heap[b]?
theorem Fr.refl (R : Nat → Nat) (w : World) : Fr R w w := ⟨rfl, rfl, rfl, Nat.le_refl _, fun _ _ _ => rfl⟩
theorem Fr.of_below {R : Nat → Nat} {w w' : World} (h : Below w.heap.size w w') : Fr R w w' := ⟨h.os, h.tape, h.output, h.size, fun b hb _ => h.block b hb⟩
theorem Fr.trans {R R' : Nat → Nat} {w w' w'' : World} (h : Fr R w w') (h' : Fr R' w' w'') (hr : ∀ b, b < w.heap.size → R b = 0 → R' b = 0) : Fr R w w'' :=
  ⟨h'.os.trans h.os, h'.tape.trans h.tape, h'.output.trans h.output, Nat.le_trans h.size h'.size, fun b hb h0 => (h'.blk b (Nat.lt_of_lt_of_le hb h.size) (hr b hb h0)).trans (h.blk b hb h0)⟩
theorem Fr.tr {R : Nat → Nat} {w w' w'' : World} (h : Fr R w w') (h' : Fr R w' w'') : Fr R w w'' := h.trans h' fun _ _ h => h
theorem Fr.keeps {R : Nat → Nat} {w w' : World} (h : Fr R w w') : Keeps (fun b => R b = 0) w w' := ⟨h.size, h.blk⟩
theorem Fr.below {R : Nat → Nat} {w w' : World} (h : Fr R w w') {B : Nat} (hB : B ≤ w.heap.size) (hR : ∀ b, R b ≠ 0 → B ≤ b) : Below B w w' :=
  ⟨h.os, h.tape, h.output, h.size, fun b hb => h.blk b (by omega) (Classical.byContradiction fun hn => by have := hR b hn; omega)⟩
theorem Fr.belowThen {R : Nat → Nat} {w w' w'' : World} (h : Fr R w w') (hb : Below w'.heap.size w' w'') : Fr R w w'' := h.tr (.of_below hb)
theorem Fr.set {R : Nat → Nat} {w w' : World} (h : Fr R w w') {p : Addr} (hp : w.heap.size ≤ p.block ∨ R p.block ≠ 0) (u : Value) : Fr R w (w'.setCell p u) :=
  ⟨h.os, h.tape, h.output, by simpa using h.size, fun b hb h0 => (Below.heap_setCell _ _ _ _ (fun e => by subst e; rcases hp with hp | hp; omega; exact hp h0)).trans (h.blk b hb h0)⟩
theorem Fr.alloc {R : Nat → Nat} {w w' : World} (h : Fr R w w') (o : Obj) : Fr R w (w'.alloc o) := h.belowThen (below1 w' o)
theorem Fr.drew {R : Nat → Nat} {w w' : World} (h : Fr R w w') : Fr R w w'.drew := ⟨h.os, h.tape, h.output, h.size, h.blk⟩
theorem Fr.drewN {R : Nat → Nat} {w w' : World} (h : Fr R w w') (n : Nat) : Fr R w (w'.drewN n) := h.belowThen (below_drewN (Below.refl _ _) n)
theorem Fr.grown {R : Nat → Nat} {w w' w'' : World} (h : Fr R w w') {row : Option Nat} (hg : w'.grownBy w'' row) (hr : ∀ k, row = some k → w.heap.size ≤ k ∨ R k ≠ 0) : Fr R w w'' :=
  ⟨hg.os.trans h.os, hg.tape.trans h.tape, hg.output.trans h.output, Nat.le_trans h.size hg.size, fun b hb h0 => (hg.block b (Nat.lt_of_lt_of_le hb h.size) (fun e => by rcases hr b e.symm with h2 | h2; omega; exact h2 h0)).trans (h.blk b hb h0)⟩

/-- Ints as a row. -/
def ics (k : IntKind) (l : List Int) : List Value := l.map (Value.int k)
def ucs (l : List Nat) : List Value := l.map fun (x : Nat) => Value.int .u32 (x : Int)
/-- A piece of syntax, where it lies. -/
def PxAt (P : Nat → Prop) (w : World) (pv : Value) : Option Px → Prop
  | none => pv = .pointer none
  | some p => ∃ b lv av mv sv, pv = .pointer (some ⟨b, 0, none⟩) ∧ P b ∧ w.heap[b]? = some (.cells #[.int .i64 p.k, .string p.t, .bool p.ng, lv, av, .int .i64 p.a, mv, sv] 46 (0, 0)) ∧
      RowV w lv p.lm.length 1 (ucs p.lm) ∧ InP P p.lm.length lv ∧ RowV w av 0 8 [] ∧ RowV w mv p.ms.length 1 (ics .i64 p.ms) ∧ InP P p.ms.length mv ∧ RowV w sv p.sb.length 1 (ics .i64 p.sb) ∧ InP P p.sb.length sv
theorem PxAt.move {P : Nat → Prop} {w w' : World} {pv : Value} {x : Option Px} (h : PxAt P w pv x) (hk : Keeps P w w') : PxAt P w' pv x := by
  cases x with
  | none => exact h
  | some p =>
    obtain ⟨b, lv, av, mv, sv, h1, h2, h3, h4, h5, h6, h7, h8, h9, h10⟩ := h
    exact ⟨b, lv, av, mv, sv, h1, h2, (hk.2 b (Array.getElem?_eq_some_iff.1 h3).1 h2).trans h3, h4.move h5 hk, h5, h6.move (P := P) (fun _ h => absurd rfl h) hk, h7.move h8 hk, h8, h9.move h10 hk, h10⟩
theorem PxAt.mono {P Q : Nat → Prop} {w : World} {pv : Value} {x : Option Px} (h : PxAt P w pv x) (hq : ∀ b, b < w.heap.size → P b → Q b) : PxAt Q w pv x := by
  cases x with
  | none => exact h
  | some p =>
    obtain ⟨b, lv, av, mv, sv, h1, h2, h3, h4, h5, h6, h7, h8, h9, h10⟩ := h
    exact ⟨b, lv, av, mv, sv, h1, hq b (Array.getElem?_eq_some_iff.1 h3).1 h2, h3, h4, h5.mono h4.lt hq, h6, h7, h8.mono h7.lt hq, h9, h10.mono h9.lt hq⟩

/-- An object, where it lies: its slots' row and its piece. -/
structure OM where
  o : Ob
  sv : Value
  pv : Value
def omL (m : OM) : List Value := [.int .i64 m.o.k, .int .i64 (m.o.c : Nat), m.sv, m.pv]
def omLs (ms : List OM) : List Value := ms.flatMap omL
theorem omLs_cons (m : OM) (ms : List OM) : omLs (m :: ms) = .int .i64 m.o.k :: .int .i64 (m.o.c : Nat) :: m.sv :: m.pv :: omLs ms := rfl
theorem omLs_append (l m : List OM) : omLs (l ++ m) = omLs l ++ omLs m := by simp [omLs]
theorem omLs_one (m : OM) : omLs [m] = omL m := by simp [omLs]
theorem omLs_len (l : List OM) : (omLs l).length = l.length * 4 := by
  induction l with
  | nil => rfl
  | cons x l ih => rw [omLs_cons]; simp only [List.length_cons, ih]; omega
theorem omLs_get : ∀ (l : List OM) (i : Nat) (h : i < l.length), (omLs l)[i * 4]? = some (.int .i64 (l[i]'h).o.k) ∧ (omLs l)[i * 4 + 1]? = some (.int .i64 ((l[i]'h).o.c : Nat)) ∧ (omLs l)[i * 4 + 2]? = some (l[i]'h).sv ∧ (omLs l)[i * 4 + 3]? = some (l[i]'h).pv
  | [], i, h => by simp at h
  | x :: l, 0, _ => ⟨rfl, rfl, rfl, rfl⟩
  | x :: l, i + 1, h => by
    have := omLs_get l i (by simpa using h)
    rw [omLs_cons, show (i + 1) * 4 = i * 4 + 1 + 1 + 1 + 1 by omega]
    simpa using this
theorem omLs_set : ∀ (l : List OM) (i : Nat) (h : i < l.length) (m : OM), omL m = omL (l[i]'h) → omLs (l.set i m) = omLs l
  | [], i, h, _, _ => by simp at h
  | y :: l, 0, _, m, e => by
    simp only [List.getElem_cons_zero] at e
    simp [omLs, e]
  | y :: l, i + 1, h, m, e => by
    have := omLs_set l i (by simpa using h) m (by simpa using e)
    simp only [omLs, List.set_cons_succ, List.flatMap_cons] at this ⊢
    rw [this]

/-- The names' map. -/
def MapS (w : World) (b : Nat) (ns : List ByteArray) : Prop := ∃ es clock, w.heap[b]? = some (.map es clock) ∧ es.size = ns.length ∧ ∀ i (h : i < ns.length), ∃ e, es[i]? = some e ∧ e.key = .string (ns[i]'h) ∧ e.val = .int .i64 (i : Nat)
def MapOk (R : Nat → Nat) (w : World) (mv : Value) (ns : List ByteArray) : Prop := (mv = .map none ∧ ns = []) ∨ ∃ b, mv = .map (some b) ∧ R b = 4 ∧ MapS w b ns
theorem MapOk.move {R : Nat → Nat} {w w' : World} {mv : Value} {ns : List ByteArray} (h : MapOk R w mv ns) (hk : Keeps (fun b => R b = 4) w w') : MapOk R w' mv ns := by
  rcases h with h | ⟨b, h1, h2, es, c, h3, h4⟩
  · exact .inl h
  · exact .inr ⟨b, h1, h2, es, c, (hk.2 b (Array.getElem?_eq_some_iff.1 h3).1 h2).trans h3, h4⟩
theorem MapOk.role {R R' : Nat → Nat} {w : World} {mv : Value} {ns : List ByteArray} (h : MapOk R w mv ns) (hr : ∀ b, R b = 4 → R' b = 4) : MapOk R' w mv ns := by
  rcases h with h | ⟨b, h1, h2, h3⟩
  · exact .inl h
  · exact .inr ⟨b, h1, hr b h2, h3⟩

/-- What is kept of a store whatever is done. -/
structure St.Ok (s : St) : Prop where
  UL : s.U ≤ s.L
  LM : s.L ≤ 1048576
  sum : (s.os.map Ob.c).sum = s.U
  cpos : ∀ o ∈ s.os, o.s.length + 1 ≤ o.c
  snd : ∀ o ∈ s.os, ∀ v ∈ o.s, sdV s.os.length s.ns.length v = true
  nd : s.ns.Nodup
  nl : s.ns.length ≤ 1000000
theorem le_sum {f : Ob → Nat} : ∀ (l : List Ob) (o : Ob), o ∈ l → f o ≤ (l.map f).sum
  | [], o, h => by cases h
  | x :: l, o, h => by
    rw [List.map_cons, List.sum_cons]
    rcases List.mem_cons.1 h with rfl | h
    · omega
    · have := le_sum (f := f) l o h; omega
theorem len_le_sum {f : Ob → Nat} : ∀ (l : List Ob), (∀ o ∈ l, 1 ≤ f o) → l.length ≤ (l.map f).sum
  | [], _ => by simp
  | x :: l, h => by
    rw [List.map_cons, List.sum_cons]
    have h1 := h x (by simp)
    have h2 := len_le_sum (f := f) l fun o ho => h o (by simp [ho])
    simp only [List.length_cons]
    omega
theorem St.Ok.len {s : St} (h : s.Ok) : s.os.length ≤ 1048576 := by
  have h1 := len_le_sum (f := Ob.c) s.os fun o ho => by have := h.cpos o ho; omega
  have h2 := h.UL; have h3 := h.LM; have h4 := h.sum
  omega
theorem St.Ok.slots {s : St} (h : s.Ok) {o : Ob} (ho : o ∈ s.os) : o.s.length ≤ 1048576 := by
  have h1 := le_sum (f := Ob.c) s.os o ho
  have h2 := h.cpos o ho
  have h3 := h.UL; have h4 := h.LM; have h5 := h.sum
  omega

/-- THE STORE in block g. Roles: 1 its box, 2 the objects' row, 3 the names', 4 the map, 5 pieces, 6 and more the slots of each object. -/
structure StM (w : World) (g : Nat) (R : Nat → Nat) (s : St) (ms : List OM) (ov nv mv : Value) : Prop where
  ok : s.Ok
  eqs : s.os = ms.map OM.o
  lt : ∀ b, R b ≠ 0 → b < w.heap.size
  gR : R g = 1
  box : w.heap[g]? = some (.cells #[.int .i64 (s.L : Nat), .int .i64 (s.U : Nat), ov, nv, mv] 110 (0, 0))
  orow : w.ownsRow 0 159 4 ov ms.length (omLs ms)
  oR : ∀ b, ov.ownBlock = some b → R b = 2
  srow : ∀ (i : Nat) (h : i < ms.length), w.ownsRow 0 29 2 (ms[i]'h).sv (ms[i]'h).o.s.length (vcs (ms[i]'h).o.s)
  sR : ∀ (i : Nat) (h : i < ms.length), ∀ b, (ms[i]'h).sv.ownBlock = some b → R b = 6 + i
  prow : ∀ (i : Nat) (h : i < ms.length), PxAt (fun b => R b = 5) w (ms[i]'h).pv (ms[i]'h).o.x
  nrow : w.ownsRow 0 9 1 nv s.ns.length (s.ns.map Value.string)
  nR : ∀ b, nv.ownBlock = some b → R b = 3
  map : MapOk R w mv s.ns
theorem StM.keep {w w' : World} {g : Nat} {R : Nat → Nat} {s : St} {ms : List OM} {ov nv mv : Value} (h : StM w g R s ms ov nv mv) (hk : Keeps (fun b => R b ≠ 0) w w') : StM w' g R s ms ov nv mv where
  ok := h.ok
  eqs := h.eqs
  lt b hb := Nat.lt_of_lt_of_le (h.lt b hb) hk.1
  gR := h.gR
  box := (hk.2 g (h.lt g (by rw [h.gR]; omega)) (show R g ≠ 0 by rw [h.gR]; omega)).trans h.box
  orow := ownsRow_keep h.orow hk fun b hb => by rw [h.oR b hb]; omega
  oR := h.oR
  srow i hi := ownsRow_keep (h.srow i hi) hk fun b hb => by rw [h.sR i hi b hb]; omega
  sR := h.sR
  prow i hi := (h.prow i hi).move (hk.mono fun b _ hb => by omega)
  nrow := ownsRow_keep h.nrow hk fun b hb => by rw [h.nR b hb]; omega
  nR := h.nR
  map := h.map.move (hk.mono fun b _ hb => by omega)
theorem StM.below {w w' : World} {g : Nat} {R : Nat → Nat} {s : St} {ms : List OM} {ov nv mv : Value} (h : StM w g R s ms ov nv mv) (hb : Below w.heap.size w w') : StM w' g R s ms ov nv mv := h.keep (Keeps.of_below hb)
theorem StM.glt {w : World} {g : Nat} {R : Nat → Nat} {s : St} {ms : List OM} {ov nv mv : Value} (h : StM w g R s ms ov nv mv) : g < w.heap.size := h.lt g (by rw [h.gR]; omega)
theorem StM.len {w : World} {g : Nat} {R : Nat → Nat} {s : St} {ms : List OM} {ov nv mv : Value} (h : StM w g R s ms ov nv mv) : s.os.length = ms.length := by rw [h.eqs, List.length_map]
theorem StM.boxf {w : World} {g : Nat} {R : Nat → Nat} {s : St} {ms : List OM} {ov nv mv : Value} (h : StM w g R s ms ov nv mv) :
    w.cell? ⟨g, 0, none⟩ = some (.int .i64 (s.L : Nat)) ∧ w.cell? ⟨g, 1, none⟩ = some (.int .i64 (s.U : Nat)) ∧ w.cell? ⟨g, 2, none⟩ = some ov ∧ w.cell? ⟨g, 3, none⟩ = some nv ∧ w.cell? ⟨g, 4, none⟩ = some mv ∧
    w.frozen? ⟨g, 1, none⟩ = false ∧ w.frozen? ⟨g, 2, none⟩ = false ∧ w.frozen? ⟨g, 3, none⟩ = false ∧ w.frozen? ⟨g, 4, none⟩ = false :=
  ⟨cell_heap h.box 0, cell_heap h.box 1, cell_heap h.box 2, cell_heap h.box 3, cell_heap h.box 4, frozen_heap h.box 1, frozen_heap h.box 2, frozen_heap h.box 3, frozen_heap h.box 4⟩
/-- An object's four cells. -/
theorem StM.objAt {w : World} {g : Nat} {R : Nat → Nat} {s : St} {ms : List OM} {ov nv mv : Value} (h : StM w g R s ms ov nv mv) {i : Nat} (hi : i < ms.length) :
    ∃ b cap, ov = .slice (some ⟨b, 0, none⟩) ms.length cap ∧ ms.length ≤ cap ∧ R b = 2 ∧ b < w.heap.size ∧ w.cell? ⟨b, i * 4, none⟩ = some (.int .i64 (ms[i]'hi).o.k) ∧ w.cell? ⟨b, i * 4 + 1, none⟩ = some (.int .i64 ((ms[i]'hi).o.c : Nat)) ∧ w.cell? ⟨b, i * 4 + 2, none⟩ = some (ms[i]'hi).sv ∧ w.cell? ⟨b, i * 4 + 3, none⟩ = some (ms[i]'hi).pv := by
  have ho := h.orow
  rcases ho.2 with ⟨_, h0⟩ | ⟨b, cap, cur, e, _, hc, hn, _, _, ht⟩
  · omega
  · have hcell := ho.cells (g := b) (by rw [e]; rfl)
    obtain ⟨g0, g1, g2, g3⟩ := omLs_get ms i hi
    refine ⟨b, cap, e, hn, h.oR b (by rw [e]; rfl), (Array.getElem?_eq_some_iff.1 hc).1, ?_, ?_, ?_, ?_⟩
    · have := hcell _ _ g0; rwa [Addr.add_mid, Nat.zero_add] at this
    · have := hcell _ _ g1; rwa [Addr.add_mid, Nat.zero_add] at this
    · have := hcell _ _ g2; rwa [Addr.add_mid, Nat.zero_add] at this
    · have := hcell _ _ g3; rwa [Addr.add_mid, Nat.zero_add] at this
/-- A slot's two cells. -/
theorem StM.slotAt {w : World} {g : Nat} {R : Nat → Nat} {s : St} {ms : List OM} {ov nv mv : Value} (h : StM w g R s ms ov nv mv) {i : Nat} (hi : i < ms.length) {j : Nat} (hj : j < (ms[i]'hi).o.s.length) :
    ∃ b cap, (ms[i]'hi).sv = .slice (some ⟨b, 0, none⟩) (ms[i]'hi).o.s.length cap ∧ (ms[i]'hi).o.s.length ≤ cap ∧ R b = 6 + i ∧ b < w.heap.size ∧ w.cell? ⟨b, j * 2, none⟩ = some (.int .i64 ((ms[i]'hi).o.s[j]'hj).1) ∧ w.cell? ⟨b, j * 2 + 1, none⟩ = some (.int .i64 ((ms[i]'hi).o.s[j]'hj).2) ∧ (∀ o, w.frozen? ⟨b, o, none⟩ = false) := by
  have ho := h.srow i hi
  rcases ho.2 with ⟨_, h0⟩ | ⟨b, cap, cur, e, _, hc, hn, _, _, ht⟩
  · omega
  · have hcell := ho.cells (g := b) (by rw [e]; rfl)
    obtain ⟨g0, g1⟩ := vcs_get (ms[i]'hi).o.s j hj
    refine ⟨b, cap, e, hn, h.sR i hi b (by rw [e]; rfl), (Array.getElem?_eq_some_iff.1 hc).1, ?_, ?_, fun o => frozen_heap hc o⟩
    · have := hcell _ _ g0; rwa [Addr.add_mid, Nat.zero_add] at this
    · have := hcell _ _ g1; rwa [Addr.add_mid, Nat.zero_add] at this

/-- A slot is set. -/
theorem StM.put {w : World} {g : Nat} {R : Nat → Nat} {s : St} {ms : List OM} {ov nv mv : Value} (h : StM w g R s ms ov nv mv) {i : Nat} (hi : i < ms.length) {j : Nat} (hj : j < (ms[i]'hi).o.s.length) (x : Int × Int) (hx : sdV s.os.length s.ns.length x = true) {b cap : Nat} (hsv : (ms[i]'hi).sv = .slice (some ⟨b, 0, none⟩) (ms[i]'hi).o.s.length cap) :
    ∃ ms', StM ((w.setCell ⟨b, j * 2, none⟩ (.int .i64 x.1)).setCell ⟨b, j * 2 + 1, none⟩ (.int .i64 x.2)) g R (s.put i j x) ms' ov nv mv := by
  have hb : R b = 6 + i := h.sR i hi b (by rw [hsv]; rfl)
  have hk : Keeps (fun b' => b' ≠ b) w ((w.setCell ⟨b, j * 2, none⟩ (.int .i64 x.1)).setCell ⟨b, j * 2 + 1, none⟩ (.int .i64 x.2)) := ((Keeps.refl _ _).set (fun h => h rfl) _).set (fun h => h rfl) _
  have hrow := h.srow i hi
  rw [hsv] at hrow
  have hrow2 := ownsRow_set (ownsRow_set hrow (j := j * 2) (by rw [vcs_len]; omega) (.int .i64 x.1)) (j := j * 2 + 1) (by rw [List.length_set, vcs_len]; omega) (.int .i64 x.2)
  rw [← vcs_set _ _ hj] at hrow2
  have hset : (ms.set i ⟨(ms[i]'hi).o.put j x, (ms[i]'hi).sv, (ms[i]'hi).pv⟩).map OM.o = s.os.modify i fun o => o.put j x := by
    rw [h.eqs, List.map_set]
    apply List.ext_getElem?
    intro k
    rw [List.getElem?_modify, List.getElem?_set]
    by_cases hki : i = k
    · subst hki
      simp [hi]
    · simp [hki]
  have hlen : (s.put i j x).os.length = s.os.length := by simp [St.put]
  have hcs : ((s.put i j x).os.map Ob.c) = s.os.map Ob.c := by
    apply List.ext_getElem?
    intro k
    simp only [St.put, List.getElem?_map, List.getElem?_modify]
    cases s.os[k]? with
    | none => simp
    | some o => by_cases hki : i = k <;> simp [hki, Ob.put]
  have hmem : ∀ o ∈ (s.put i j x).os, ∃ o' ∈ s.os, o = o' ∨ o = o'.put j x := by
    intro o ho
    obtain ⟨k, hk, rfl⟩ := List.getElem_of_mem ho
    have hk2 : k < s.os.length := by omega
    refine ⟨s.os[k], List.getElem_mem hk2, ?_⟩
    simp only [St.put, List.getElem_modify]
    split
    · exact .inr rfl
    · exact .inl rfl
  have hlenm : (ms.set i ⟨(ms[i]'hi).o.put j x, (ms[i]'hi).sv, (ms[i]'hi).pv⟩).length = ms.length := List.length_set
  have hat : ∀ (k : Nat) (hk : k < (ms.set i ⟨(ms[i]'hi).o.put j x, (ms[i]'hi).sv, (ms[i]'hi).pv⟩).length), (ms.set i ⟨(ms[i]'hi).o.put j x, (ms[i]'hi).sv, (ms[i]'hi).pv⟩)[k] = if i = k then ⟨(ms[i]'hi).o.put j x, (ms[i]'hi).sv, (ms[i]'hi).pv⟩ else ms[k]'(by omega) := by
    intro k hk
    rw [List.getElem_set]
  refine ⟨ms.set i ⟨(ms[i]'hi).o.put j x, (ms[i]'hi).sv, (ms[i]'hi).pv⟩, ?_⟩
  refine ⟨⟨h.ok.UL, h.ok.LM, by rw [hcs]; exact h.ok.sum, fun o ho => ?_, fun o ho v hv => ?_, h.ok.nd, h.ok.nl⟩, by rw [hset]; rfl, fun b' hb' => by have := h.lt b' hb'; simpa using this, h.gR, ?_, ?_, h.oR, fun k hk' => ?_, fun k hk' => ?_, fun k hk' => ?_, ?_, h.nR, ?_⟩
  · obtain ⟨o', ho', rfl | rfl⟩ := hmem o ho
    · exact h.ok.cpos o ho'
    · have := h.ok.cpos o' ho'
      simpa [Ob.put] using this
  · rw [hlen]
    obtain ⟨o', ho', rfl | rfl⟩ := hmem o ho
    · exact h.ok.snd o ho' v hv
    · rcases List.mem_or_eq_of_mem_set hv with hv | rfl
      · exact h.ok.snd o' ho' v hv
      · exact hx
  · exact (hk.2 g h.glt (fun e => by have := h.gR; rw [e] at this; omega)).trans h.box
  · rw [hlenm, omLs_set ms i hi ⟨(ms[i]'hi).o.put j x, (ms[i]'hi).sv, (ms[i]'hi).pv⟩ rfl]
    exact ownsRow_keep h.orow hk fun b' hb' e => by have := h.oR b' hb'; rw [e] at this; omega
  · rw [hat k hk']
    by_cases hki : i = k
    · subst hki
      rw [if_pos rfl]
      have hl2 : ((ms[i]'hi).o.put j x).s.length = (ms[i]'hi).o.s.length := by simp [Ob.put]
      show World.ownsRow _ 0 _ 2 (ms[i]'hi).sv ((ms[i]'hi).o.put j x).s.length _
      rw [hl2, hsv]
      exact hrow2
    · rw [if_neg hki]
      refine ownsRow_keep (h.srow k (by omega)) hk fun b' hb' e => ?_
      have := h.sR k (by omega) b' hb'
      rw [e] at this
      omega
  · rw [hat k hk']
    by_cases hki : i = k
    · subst hki
      rw [if_pos rfl]
      exact h.sR i hi
    · rw [if_neg hki]
      exact h.sR k (by omega)
  · rw [hat k hk']
    by_cases hki : i = k
    · subst hki
      rw [if_pos rfl]
      exact (h.prow i hi).move (hk.mono fun b' _ hb' e => by rw [e] at hb'; omega)
    · rw [if_neg hki]
      exact (h.prow k (by omega)).move (hk.mono fun b' _ hb' e => by rw [e] at hb'; omega)
  · exact ownsRow_keep h.nrow hk fun b' hb' e => by have := h.nR b' hb'; rw [e] at this; omega
  · exact h.map.move (hk.mono fun b' _ hb' e => by rw [e] at hb'; omega)

/-- An object more: its row of slots, and its piece, were nobody's. -/
theorem StM.add {w w' w2 : World} {g : Nat} {R : Nat → Nat} {s : St} {ms : List OM} {ov nv mv : Value} (h : StM w g R s ms ov nv mv) {m : OM} {P : Nat → Prop} (hs : w.ownsRow 0 29 2 m.sv m.o.s.length (vcs m.o.s)) (hsR : ∀ b, m.sv.ownBlock = some b → R b = 0 ∧ ¬ P b) (hp : PxAt P w m.pv m.o.x) (hpR : ∀ b, P b → R b = 0 ∧ b < w.heap.size)
    {ov' : Value} (ho : w'.ownsRow 0 159 4 ov' (ms.length + 1) (omLs ms ++ omL m)) (hg : w.grownBy w' ov.ownBlock) (hm : MovedTo w ov ov') (hc : m.o.s.length + 1 ≤ m.o.c) (hr : s.U + m.o.c ≤ s.L) (hsn : m.o.s.all (sdV s.os.length s.ns.length) = true)
    (hw2 : w2.heap[g]? = some (.cells #[.int .i64 (s.L : Nat), .int .i64 ((s.U + m.o.c : Nat) : Int), ov', nv, mv] 110 (0, 0))) (hk2 : Keeps (fun b => b ≠ g) w' w2) :
    ∃ R', StM w2 g R' (s.add m.o) (ms ++ [m]) ov' nv mv ∧ (∀ b, R b ≠ 0 → R' b = R b) ∧ ∀ b, R' b ≠ 0 → R b ≠ 0 ∨ m.sv.ownBlock = some b ∨ P b ∨ w.heap.size ≤ b := by
  classical
  have hov : ∀ b, ov'.ownBlock = some b → R b = 2 ∨ w.heap.size ≤ b := fun b hb => by
    rcases hm with e | ⟨b2, e, hge⟩
    · exact .inl (h.oR b (e ▸ hb))
    · rw [e] at hb; injection hb with hb; exact .inr (by omega)
  have hslt : ∀ b, m.sv.ownBlock = some b → b < w.heap.size := fun b hb => (hs.lt b hb).2
  have hsz : w.heap.size ≤ w2.heap.size := Nat.le_trans hg.size hk2.1
  have hk1 : Keeps (fun b => R b ≠ 2) w w' := Keeps.of_grown hg fun b hb hn => hn (h.oR b hb)
  have hk : Keeps (fun b => R b ≠ 2 ∧ b ≠ g) w w2 := (hk1.mono fun _ _ h => h.1).trans (hk2.mono fun _ _ h => h.2)
  have hgR := h.gR
  have hng : ∀ b, R b ≠ 1 → b ≠ g := fun b hb e => hb (by rw [e]; exact hgR)
  refine ⟨fun b => if R b ≠ 0 then R b else if m.sv.ownBlock = some b then 6 + ms.length else if P b then 5 else if ov'.ownBlock = some b then 2 else 0, ?_, fun b hb => by simp only [if_pos hb], fun b hb => ?_⟩
  · have hold : ∀ b, R b ≠ 0 → (if R b ≠ 0 then R b else if m.sv.ownBlock = some b then 6 + ms.length else if P b then 5 else if ov'.ownBlock = some b then 2 else 0) = R b := fun b hb => if_pos hb
    have hlen := h.len
    refine ⟨⟨hr, h.ok.LM, ?_, fun o ho' => ?_, fun o ho' v hv => ?_, h.ok.nd, h.ok.nl⟩, ?_, fun b hb => ?_, ?_, hw2, ?_, fun b hb => ?_, fun k hk' => ?_, fun k hk' b hb => ?_, fun k hk' => ?_, ?_, fun b hb => ?_, ?_⟩
    · show ((s.os ++ [m.o]).map Ob.c).sum = s.U + m.o.c
      rw [List.map_append, List.sum_append, h.ok.sum]
      simp
    · rcases List.mem_append.1 ho' with ho' | ho'
      · exact h.ok.cpos o ho'
      · obtain rfl := List.mem_singleton.1 ho'
        exact hc
    · have hmore : sdV s.os.length s.ns.length v = true → sdV (s.os ++ [m.o]).length s.ns.length v = true := by
        intro hv'
        by_cases h7 : v.1 = 7
        · rw [sdV_obj h7] at hv' ⊢
          simp only [decide_eq_true_iff] at hv' ⊢
          rw [List.length_append]
          simp only [List.length_singleton]
          omega
        · unfold sdV at hv' ⊢
          simpa [h7] using hv'
      refine hmore ?_
      rcases List.mem_append.1 ho' with ho' | ho'
      · exact h.ok.snd o ho' v hv
      · obtain rfl := List.mem_singleton.1 ho'
        exact List.all_eq_true.1 hsn v hv
    · show s.os ++ [m.o] = _
      rw [h.eqs]; simp
    · by_cases h0 : R b ≠ 0
      · exact Nat.lt_of_lt_of_le (h.lt b h0) hsz
      · simp only [if_neg h0] at hb
        by_cases h1 : m.sv.ownBlock = some b
        · exact Nat.lt_of_lt_of_le (hslt b h1) hsz
        · simp only [if_neg h1] at hb
          by_cases h2 : P b
          · exact Nat.lt_of_lt_of_le (hpR b h2).2 hsz
          · simp only [if_neg h2] at hb
            by_cases h3 : ov'.ownBlock = some b
            · exact Nat.lt_of_lt_of_le (ho.lt b h3).2 hk2.1
            · simp [h3] at hb
    · rw [hold g (by rw [hgR]; omega)]; exact hgR
    · have e1 : omLs (ms ++ [m]) = omLs ms ++ omL m := by rw [omLs_append, omLs_one]
      rw [e1, List.length_append]
      refine ownsRow_keep ho hk2 fun b hb e => ?_
      subst e
      rcases hov b hb with e | e
      · omega
      · have := h.glt; omega
    · rcases hov b hb with e | e
      · rw [hold b (by omega)]; exact e
      · have h0 : R b = 0 := Classical.byContradiction fun hn => by have := h.lt b hn; omega
        have h1 : m.sv.ownBlock ≠ some b := fun e2 => by have := hslt b e2; omega
        have h2 : ¬ P b := fun e2 => by have := (hpR b e2).2; omega
        simp [h0, h1, h2, hb]
    · rcases Nat.lt_or_ge k ms.length with hk3 | hk3
      · rw [List.getElem_append_left hk3]
        refine ownsRow_keep (h.srow k hk3) hk fun b hb => ?_
        have := h.sR k hk3 b hb
        exact ⟨by omega, hng b (by omega)⟩
      · obtain rfl : k = ms.length := by simp at hk'; omega
        rw [List.getElem_append_right (Nat.le_refl _)]
        simp only [Nat.sub_self, List.getElem_singleton]
        refine ownsRow_keep hs hk fun b hb => ?_
        have := (hsR b hb).1
        exact ⟨by omega, hng b (by omega)⟩
    · rcases Nat.lt_or_ge k ms.length with hk3 | hk3
      · rw [List.getElem_append_left hk3] at hb
        have := h.sR k hk3 b hb
        rw [hold b (by omega)]; exact this
      · obtain rfl : k = ms.length := by simp at hk'; omega
        rw [List.getElem_append_right (Nat.le_refl _)] at hb
        simp only [Nat.sub_self, List.getElem_singleton] at hb
        have := (hsR b hb).1
        simp [this, hb]
    · rcases Nat.lt_or_ge k ms.length with hk3 | hk3
      · rw [List.getElem_append_left hk3]
        refine ((h.prow k hk3).move (hk.mono fun b _ hb => ⟨by omega, hng b (by omega)⟩)).mono fun b _ hb => ?_
        rw [hold b (by omega)]; exact hb
      · obtain rfl : k = ms.length := by simp at hk'; omega
        rw [List.getElem_append_right (Nat.le_refl _)]
        simp only [Nat.sub_self, List.getElem_singleton]
        refine (hp.move (hk.mono fun b _ hb => ?_)).mono fun b _ hb => ?_
        · have := (hpR b hb).1
          exact ⟨by omega, hng b (by omega)⟩
        · have h0 := (hpR b hb).1
          have h1 : m.sv.ownBlock ≠ some b := fun e2 => (hsR b e2).2 hb
          simp [h0, h1, hb]
    · refine ownsRow_keep h.nrow hk fun b hb => ?_
      have := h.nR b hb
      exact ⟨by omega, hng b (by omega)⟩
    · have := h.nR b hb
      rw [hold b (by omega)]; exact this
    · exact (h.map.move (hk.mono fun b _ hb => ⟨by omega, hng b (by omega)⟩)).role fun b hb => by rw [hold b (by omega)]; exact hb
  · by_cases h0 : R b ≠ 0
    · exact .inl h0
    · simp only [if_neg h0] at hb
      by_cases h1 : m.sv.ownBlock = some b
      · exact .inr (.inl h1)
      · simp only [if_neg h1] at hb
        by_cases h2 : P b
        · exact .inr (.inr (.inl h2))
        · simp only [if_neg h2] at hb
          by_cases h3 : ov'.ownBlock = some b
          · rcases hov b h3 with e | e
            · exact absurd e (by omega)
            · exact .inr (.inr (.inr e))
          · simp [h3] at hb

/-- The store, however it lies. -/
def StW (w : World) (g : Nat) (R : Nat → Nat) (s : St) : Prop := ∃ ms ov nv mv, StM w g R s ms ov nv mv
/-- What a call leaves: the store as it is now, and all else as it was. -/
def StP (w : World) (g : Nat) (R : Nat → Nat) (s : St) (w' : World) : Prop := ∃ R', StW w' g R' s ∧ Fr R w w' ∧ ∀ b, b < w.heap.size → (R' b = 0 ↔ R b = 0)
theorem StW.below {w w' : World} {g : Nat} {R : Nat → Nat} {s : St} (h : StW w g R s) (hb : Below w.heap.size w w') : StW w' g R s := by
  obtain ⟨ms, ov, nv, mv, h⟩ := h; exact ⟨ms, ov, nv, mv, h.below hb⟩
theorem StW.keep {w w' : World} {g : Nat} {R : Nat → Nat} {s : St} (h : StW w g R s) (hk : Keeps (fun b => R b ≠ 0) w w') : StW w' g R s := by
  obtain ⟨ms, ov, nv, mv, h⟩ := h; exact ⟨ms, ov, nv, mv, h.keep hk⟩
theorem StW.lt {w : World} {g : Nat} {R : Nat → Nat} {s : St} (h : StW w g R s) : ∀ b, R b ≠ 0 → b < w.heap.size := by
  obtain ⟨ms, ov, nv, mv, h⟩ := h; exact h.lt
theorem StW.ok {w : World} {g : Nat} {R : Nat → Nat} {s : St} (h : StW w g R s) : s.Ok := by
  obtain ⟨ms, ov, nv, mv, h⟩ := h; exact h.ok
theorem StW.gR {w : World} {g : Nat} {R : Nat → Nat} {s : St} (h : StW w g R s) : R g = 1 := by
  obtain ⟨ms, ov, nv, mv, h⟩ := h; exact h.gR
end Go.Proofs.YtocladhggcaokaaGreatDoor
