/- Collect: what is left, as it lies in memory. No walk here. -/
import Derived.Test.YtioidaojnbenbaaStNums
namespace Go.Proofs.Ytioidaojnbenbaa
open Go.RowKit

theorem kpt_inv {K : Nat → Bool} : ∀ {k j : Nat}, j < plc K k → ∃ i, i < k ∧ K i = true ∧ plc K i = j
  | 0, j, h => by simp [plc] at h
  | k + 1, j, h => by
    rw [plc_succ] at h
    by_cases hj : j < plc K k
    · obtain ⟨i, h1, h2⟩ := kpt_inv hj
      exact ⟨i, by omega, h2⟩
    · cases hK : K k with
      | false => rw [hK] at h; simp at h; omega
      | true => rw [hK] at h; simp at h; exact ⟨k, by omega, hK, by omega⟩
def OM.mv (K : Nat → Bool) (m : OM) : OM := ⟨m.o.mv K, m.sv, m.pv⟩
theorem omL_mv (K : Nat → Bool) (m : OM) : omL (m.mv K) = omL m := rfl

/-- append of one onto the front part of a row that is owned: the one behind is overwritten. -/
theorem wpList_append_in {P : Program} {w : World} {ops : Array Oper} {rest : List Oper} {o : Oper} {a : Act} {Q : Exit → Act → World → Prop} (hgd : o.guard = none) (s x : Operand) (t : TypeId)
    (ho : o.op = .call { callee := .builtin .append, args := #[s, x], argTypes := #[t, t] })
    (base : Nat) (e : TypeId) (i : TypeInfo) (size : Nat) (ht : P.underlying t = some (.slice e)) (hi : P.info? e = some i) (hsize : i.size = size)
    (b n cap c : Nat) (X : List Value) (hs : a.eval s = .slice (some ⟨b, 0, none⟩) c cap) (hown : w.ownsRow base e size (.slice (some ⟨b, 0, none⟩) n cap) n X) (hc : c < n)
    (ad : Addr) (m : Nat) (news : List Value) (hx : a.eval x = .slice (some ad) 1 m) (hl : news.length = size) (hnews : ∀ j u, news[j]? = some u → w.cell? (ad.add j) = some u) (h1 : ∀ u ∈ news, u.oneCell' = true)
    (h : ∀ w', w'.ownsRow base e size (.slice (some ⟨b, 0, none⟩) n cap) n (X.take (c * size) ++ news ++ X.drop (c * size + size)) → w.grownBy w' (some b) → wpList P ops Q rest (a.put o.dst (.slice (some ⟨b, 0, none⟩) (c + 1) cap)) w') : wpList P ops Q (o :: rest) a w := by
  subst hsize
  obtain ⟨hXl, hh⟩ := hown
  rcases hh with ⟨h0, _⟩ | ⟨b', cap', cur, he, hb, hg, hn, hm, hcs, htake⟩
  · cases h0
  simp only [Value.slice.injEq, Option.some.injEq, Addr.mk.injEq, true_and, and_true] at he
  obtain ⟨rfl, rfl⟩ := he
  have hcn : (c + 1) * i.size ≤ n * i.size := Nat.mul_le_mul_right _ hc
  have hnc : n * i.size ≤ cap * i.size := Nat.mul_le_mul_right _ hn
  rw [Nat.add_mul, Nat.one_mul] at hcn
  have hfit : c * i.size + news.length ≤ cur.size := by rw [hl, hcs]; omega
  have hr := run_append_room (P := P) w t o.type e i ht hi b c cap cur hg ad 1 m news (by rw [hl, Nat.one_mul]) hnews h1 (by omega) hfit
  refine wpList_plain hgd fun K hK => ?_
  unfold Oper.wp execOp
  simp only [ho, resolve, invoke, builtin, Sem.run_bind, Sem.run_pure, Result.andThen_ok, List.map_toArray, List.map_cons, List.map_nil, hs, hx, hr]
  refine hK _ _ (h _ ⟨?_, .inr ⟨b, cap, _, rfl, hb, setRow_heap w b cur _ e _ hg, hn, hm, ?_, ?_⟩⟩ ⟨rfl, rfl, rfl, by simp, fun k _ hk => setRow_other w b k _ (fun e => hk (by rw [e]))⟩)
  · simp only [List.length_append, List.length_take, List.length_drop, hXl, hl]; omega
  · simp only [List.size_toArray, List.length_append, List.length_take, List.length_drop, Array.length_toList, hcs, hl]; omega
  · simp only [List.append_assoc]
    have e1 : cur.toList.take (c * i.size) = X.take (c * i.size) := by rw [← htake, List.take_take, Nat.min_eq_left (by omega)]
    have e2 : (cur.toList.drop (c * i.size + i.size)).take (n * i.size - (c * i.size + i.size)) = X.drop (c * i.size + i.size) := by rw [← htake, List.drop_take]
    have hA : (X.take (c * i.size)).length = c * i.size := by rw [List.length_take, hXl]; omega
    rw [e1, List.take_append, hA, List.take_of_length_le (l := X.take (c * i.size)) (by rw [hA]; omega), List.take_append, List.take_of_length_le (l := news) (by rw [hl]; omega), hl, ← e2, Nat.sub_sub]

/-- What lies behind the front part is cleared. -/
theorem wpList_clear_in {P : Program} {w : World} {ops : Array Oper} {rest : List Oper} {o : Oper} {a : Act} {Q : Exit → Act → World → Prop} (hgd : o.guard = none) (x : Operand) (t : TypeId)
    (ho : o.op = .call { callee := .builtin .clear, args := #[x], argTypes := #[t] })
    (base : Nat) (e : TypeId) (z : Value) (size : Nat) (ht : P.underlying t = some (.slice e)) (hz : ∀ w, (zeroValue e).run P w = .ok z w) (hzs : z.cells.size = size) (hz1 : ∀ u ∈ z.cells.toList, u.oneCell' = true)
    (b n cap c m : Nat) (X : List Value) (ao : Option Addr) (hx : a.eval x = .slice ao (n - c) m) (hao : c < n → ao = some ⟨b, c * size, none⟩) (hown : w.ownsRow base e size (.slice (some ⟨b, 0, none⟩) n cap) n X) (hc : c ≤ n)
    (h : ∀ w', w'.ownsRow base e size (.slice (some ⟨b, 0, none⟩) c cap) c (X.take (c * size)) → w.grownBy w' (some b) → wpList P ops Q rest (a.put o.dst (.tuple #[])) w') : wpList P ops Q (o :: rest) a w := by
  by_cases hcn : c = n
  · subst hcn
    refine wpList_plain hgd fun K hK => ?_
    have hr : (Builtin.clear_ #[t] o.type #[.slice ao (c - c) m]).run P w = .ok (.tuple #[]) w := by
      rw [Nat.sub_self]
      cases ao <;> simp [Builtin.clear_, run_underlying ht]
    unfold Oper.wp execOp
    simp only [ho, resolve, invoke, builtin, Sem.run_bind, Sem.run_pure, Result.andThen_ok, List.map_toArray, List.map_cons, List.map_nil, hx, hr]
    exact hK _ _ (h w (ownsRow_take hown (Nat.le_refl _)) ⟨rfl, rfl, rfl, Nat.le_refl _, fun _ _ _ => rfl⟩)
  · have hlt : c < n := by omega
    obtain rfl := hao hlt
    have htk := ownsRow_take hown hc
    obtain ⟨hXl, hh⟩ := hown
    rcases hh with ⟨h0, _⟩ | ⟨b', cap', cur, he, hb, hg, hn, hm, hcs, htake⟩
    · cases h0
    simp only [Value.slice.injEq, Option.some.injEq, Addr.mk.injEq, true_and, and_true] at he
    obtain ⟨rfl, rfl⟩ := he
    have hnc : n * size ≤ cap * size := Nat.mul_le_mul_right _ hn
    have hzl : (Builtin.zeroCells z.cells (n - c)).toList.length = (n - c) * size := by
      have := size_zeroCells z.cells (n - c)
      rw [Array.length_toList, this, hzs]
    have hsub : (n - c) * size = n * size - c * size := Nat.sub_mul _ _ _
    have hcs2 : c * size ≤ n * size := Nat.mul_le_mul_right _ hc
    have hone : ∀ u ∈ (Builtin.zeroCells z.cells (n - c)).toList, u.oneCell' = true := by
      intro u hu
      unfold Builtin.zeroCells at hu
      simp at hu
      obtain ⟨k, hk, rfl⟩ := hu
      have hpos : 0 < z.cells.size := by
        apply Nat.pos_of_ne_zero
        intro h0
        rw [h0] at hk
        simp at hk
      have hlt := Nat.mod_lt k hpos
      rw [getElem!_pos z.cells _ hlt]
      exact hz1 _ (by simp)
    have hst := run_storeCells_at P b (c * size) e (Builtin.zeroCells z.cells (n - c)).toList 0 cur w hg (by rw [hzl, hcs]; omega) hone
    simp only [Nat.add_zero] at hst
    obtain ⟨d, hd⟩ : ∃ d, n - c = d + 1 := ⟨n - c - 1, by omega⟩
    have hr : (Builtin.clear_ #[t] o.type #[.slice (some ⟨b, c * size, none⟩) (n - c) m]).run P w = .ok (.tuple #[]) (w.setRow b (cur.toList.take (c * size) ++ (Builtin.zeroCells z.cells (n - c)).toList ++ cur.toList.drop (c * size + (Builtin.zeroCells z.cells (n - c)).toList.length)).toArray) := by
      rw [hd] at hst ⊢
      simp [Builtin.clear_, run_underlying ht, hz, hst]
    refine wpList_plain hgd fun K hK => ?_
    unfold Oper.wp execOp
    simp only [ho, resolve, invoke, builtin, Sem.run_bind, Sem.run_pure, Result.andThen_ok, List.map_toArray, List.map_cons, List.map_nil, hx, hr]
    refine hK _ _ (h _ ⟨htk.1, .inr ⟨b, cap, _, rfl, hb, setRow_heap w b cur _ e _ hg, by omega, hm, ?_, ?_⟩⟩ ⟨rfl, rfl, rfl, by simp, fun k _ hk => setRow_other w b k _ (fun e => hk (by rw [e]))⟩)
    · simp only [List.size_toArray, List.length_append, List.length_take, List.length_drop, hzl]
      rw [Array.length_toList, hcs]
      omega
    · have hlen : (cur.toList.take (c * size)).length = c * size := by rw [List.length_take, Array.length_toList, hcs]; omega
      show ((cur.toList.take (c * size) ++ (Builtin.zeroCells z.cells (n - c)).toList) ++ _).take (c * size) = _
      rw [List.append_assoc, List.take_append_of_le_length (by omega), List.take_take, Nat.min_self, ← htake, List.take_take, Nat.min_eq_left hcs2]

/-- What holds while objects are kept: the box with what is used; the objects' row; each one's slots; all else as it was. -/
structure KpI (w wr : World) (g : Nat) (R : Nat → Nat) (s : St) (ms : List OM) (b cap : Nat) (nv mv : Value) (u : Nat) (X : List Value) (σ : Nat → List (Int × Int)) : Prop where
  box : wr.heap[g]? = some (.cells #[.int .i64 (s.L : Nat), .int .i64 (u : Nat), .slice (some ⟨b, 0, none⟩) ms.length cap, nv, mv] 69 (0, 0))
  row : wr.ownsRow 0 73 4 (.slice (some ⟨b, 0, none⟩) ms.length cap) ms.length X
  srow : ∀ (i : Nat) (h : i < ms.length), wr.ownsRow 0 35 2 (ms[i]'h).sv (ms[i]'h).o.s.length (vcs (σ i))
  kp : Keeps (fun b => R b = 0 ∨ R b = 3 ∨ R b = 4 ∨ R b = 5) w wr
  fr : Fr R w wr
/-- Each one's slots. -/
def slS (ms : List OM) (i : Nat) : List (Int × Int) := match ms[i]? with
  | some m => m.o.s
  | none => []
theorem StM.kpi {w : World} {g : Nat} {R : Nat → Nat} {s : St} {ms : List OM} {nv mv : Value} {b cap : Nat} (h : StM w g R s ms (.slice (some ⟨b, 0, none⟩) ms.length cap) nv mv) : KpI w w g R s ms b cap nv mv s.U (omLs ms) (slS ms) :=
  ⟨h.box, h.orow, fun i hi => by unfold slS; simp only [List.getElem?_eq_getElem hi]; exact h.srow i hi, Keeps.refl _ _, Fr.refl _ _⟩
section
variable {w wr wr' : World} {g : Nat} {R : Nat → Nat} {s : St} {ms : List OM} {nv mv : Value} {b cap u : Nat} {X : List Value} {σ : Nat → List (Int × Int)}
theorem KpI.below (h : KpI w wr g R s ms b cap nv mv u X σ) (hb : Below wr.heap.size wr wr') : KpI w wr' g R s ms b cap nv mv u X σ :=
  ⟨(hb.block g (Array.getElem?_eq_some_iff.1 h.box).1).trans h.box, ownsRow_keep h.row (Keeps.of_below (P := fun _ => True) hb) fun _ _ => trivial, fun i hi => ownsRow_keep (h.srow i hi) (Keeps.of_below (P := fun _ => True) hb) fun _ _ => trivial, h.kp.trans (Keeps.of_below hb), h.fr.belowThen hb⟩
theorem KpI.use (hgR : R g = 1) (hbR : R b = 2) (hsR : ∀ (i : Nat) (h : i < ms.length), ∀ b, (ms[i]'h).sv.ownBlock = some b → R b = 6 + i) (h : KpI w wr g R s ms b cap nv mv u X σ) (u' : Nat) {y : Int} (hy : y = (u' : Int)) : KpI w (wr.setCell ⟨g, 1, none⟩ (.int .i64 y)) g R s ms b cap nv mv u' X σ := by
  subst hy
  have hk : Keeps (fun b => b ≠ g) wr (wr.setCell ⟨g, 1, none⟩ (.int .i64 (u' : Nat))) := (Keeps.refl _ _).set (fun h => h rfl) _
  refine ⟨rowSet h.box 1 _, ownsRow_keep h.row hk fun b' hb' e => ?_, fun i hi => ownsRow_keep (h.srow i hi) hk fun b' hb' e => ?_, h.kp.set (fun hn => by simp only at hn; omega) _, h.fr.set (.inr (by show R g ≠ 0; omega)) _⟩
  · injection hb' with hb'; subst hb'; subst e; simp only at *; omega
  · have := hsR i hi b' hb'; subst e; omega
theorem KpI.app (hgR : R g = 1) (hbR : R b = 2) (hsR : ∀ (i : Nat) (h : i < ms.length), ∀ b, (ms[i]'h).sv.ownBlock = some b → R b = 6 + i) (h : KpI w wr g R s ms b cap nv mv u X σ) {X' : List Value} (hrow : wr'.ownsRow 0 73 4 (.slice (some ⟨b, 0, none⟩) ms.length cap) ms.length X') (hg : wr.grownBy wr' (some b)) : KpI w wr' g R s ms b cap nv mv u X' σ := by
  have hk : Keeps (fun b' => b' ≠ b) wr wr' := Keeps.of_grown hg fun b' e hn => hn (Option.some.inj e).symm
  refine ⟨(hk.2 g (Array.getElem?_eq_some_iff.1 h.box).1 (fun e => by rw [e] at hgR; omega)).trans h.box, hrow, fun i hi => ownsRow_keep (h.srow i hi) hk fun b' hb' e => ?_, h.kp.trans (hk.mono fun b' _ hb' e => by rw [e] at hb'; omega), h.fr.grown hg fun b' e => .inr (by injection e with e; rw [← e]; omega)⟩
  have := hsR i hi b' hb'; subst e; omega
theorem KpI.ren (hgR : R g = 1) (hbR : R b = 2) (hsR : ∀ (i : Nat) (h : i < ms.length), ∀ b, (ms[i]'h).sv.ownBlock = some b → R b = 6 + i) (h : KpI w wr g R s ms b cap nv mv u X σ) {k : Nat} (hk : k < ms.length) {l : List (Int × Int)} (hrow : wr'.ownsRow 0 35 2 (ms[k]'hk).sv (ms[k]'hk).o.s.length (vcs l)) (hf : Fr (only (ms[k]'hk).sv) wr wr') : KpI w wr' g R s ms b cap nv mv u X (fun i => if i = k then l else σ i) := by
  have hkp : Keeps (fun b' => R b' ≠ 6 + k) wr wr' := hf.keeps.mono fun b' _ hb' => Classical.byContradiction fun hn => hb' (hsR k hk b' (only_ne.1 hn))
  refine ⟨(hkp.2 g (Array.getElem?_eq_some_iff.1 h.box).1 (show R g ≠ 6 + k by omega)).trans h.box, ownsRow_keep h.row hkp fun b' hb' => ?_, fun i hi => ?_, h.kp.trans (hkp.mono fun b' _ hb' => by omega), h.fr.trans hf fun b' _ h0 => Classical.byContradiction fun hn => ?_⟩
  · injection hb' with hb'; simp only at hb'; subst hb'; omega
  · by_cases hik : i = k
    · subst hik; simp only [if_true]; exact hrow
    · simp only [if_neg hik]
      exact ownsRow_keep (h.srow i hi) hkp fun b' hb' => by have := hsR i hi b' hb'; omega
  · have := hsR k hk b' (only_ne.1 hn); omega
end
/-- The roles that blocks have then. -/
def Rleft (K : Nat → Bool) (R : Nat → Nat) (b : Nat) : Nat := if R b < 6 then R b else if K (R b - 6) then 6 + plc K (R b - 6) else 2
theorem Rleft_zero {K : Nat → Bool} {R : Nat → Nat} {b : Nat} : Rleft K R b = 0 ↔ R b = 0 := by
  unfold Rleft
  split
  · exact Iff.rfl
  · split <;> omega
theorem Rleft_low {K : Nat → Bool} {R : Nat → Nat} {b : Nat} (h : R b < 6) : Rleft K R b = R b := by unfold Rleft; rw [if_pos h]
/-- All that is left, as a store again. -/
theorem StM.leave {w wr : World} {g : Nat} {R : Nat → Nat} {s : St} {ms : List OM} {nv mv ov : Value} {b cap : Nat} (h : StM w g R s ms ov nv mv) (hbR : R b = 2) {K : Nat → Bool} (hK : ∀ (m n : Nat) (o : Ob), K m = true → s.os[m]? = some o → ((7 : Int), (n : Int)) ∈ o.s → K n = true)
    (hbox : wr.heap[g]? = some (.cells #[.int .i64 (s.L : Nat), .int .i64 ((s.left K).U : Nat), .slice (some ⟨b, 0, none⟩) (plc K ms.length) cap, nv, mv] 69 (0, 0)))
    (hrow : wr.ownsRow 0 73 4 (.slice (some ⟨b, 0, none⟩) (plc K ms.length) cap) (plc K ms.length) (omLs (kpt K (OM.mv K) ms ms.length)))
    (hsrow : ∀ (i : Nat) (hi : i < ms.length), K i = true → wr.ownsRow 0 35 2 (ms[i]'hi).sv (ms[i]'hi).o.s.length (vcs ((ms[i]'hi).o.s.map (mvV K)))) (hkp : Keeps (fun b => R b = 0 ∨ R b = 3 ∨ R b = 4 ∨ R b = 5) w wr) :
    StM wr g (Rleft K R) (s.left K) (kpt K (OM.mv K) ms ms.length) (.slice (some ⟨b, 0, none⟩) (plc K ms.length) cap) nv mv := by
  have hlen : (kpt K (OM.mv K) ms ms.length).length = plc K ms.length := kpt_len (Nat.le_refl _)
  have hat : ∀ (j : Nat) (hj : j < (kpt K (OM.mv K) ms ms.length).length), ∃ (i : Nat) (hi : i < ms.length), K i = true ∧ plc K i = j ∧ (kpt K (OM.mv K) ms ms.length)[j] = (ms[i]'hi).mv K := by
    intro j hj
    obtain ⟨i, hi, hKi, hp⟩ := kpt_inv (K := K) (k := ms.length) (j := j) (by omega)
    have := kpt_get (K := K) (f := OM.mv K) (Nat.le_refl _) hi hKi
    rw [hp, List.getElem?_eq_getElem hj] at this
    exact ⟨i, hi, hKi, hp, Option.some.inj this⟩
  refine ⟨h.ok.left hK, ?_, fun b' hb' => Nat.lt_of_lt_of_le (h.lt b' (fun h0 => hb' (Rleft_zero.2 h0))) hkp.1, by rw [Rleft_low (by rw [h.gR]; omega)]; exact h.gR, hbox, by rw [hlen]; exact hrow, fun b' hb' => ?_, fun j hj => ?_, fun j hj b' hb' => ?_, fun j hj => ?_, ?_, fun b' hb' => ?_, ?_⟩
  · show kpt K (Ob.mv K) s.os s.os.length = _
    have h1 := kpt_map (K := K) (f := OM.mv K) (f' := Ob.mv K) OM.o (fun _ => rfl) (l := ms) ms.length (Nat.le_refl _)
    rw [h1, h.eqs, List.length_map]
  · injection hb' with hb'
    simp only at hb'
    subst hb'
    rw [Rleft_low (by omega)]; exact hbR
  · obtain ⟨i, hi, hKi, _, e⟩ := hat j hj
    rw [e]
    have h1 := hsrow i hi hKi
    have h2 : ((ms[i]'hi).mv K).o.s.length = (ms[i]'hi).o.s.length := by simp [OM.mv, Ob.mv]
    rw [h2]
    exact h1
  · obtain ⟨i, hi, hKi, hp, e⟩ := hat j hj
    rw [e] at hb'
    have h1 := h.sR i hi b' hb'
    unfold Rleft
    rw [h1, if_neg (by omega), show 6 + i - 6 = i by omega, if_pos hKi, hp]
  · obtain ⟨i, hi, hKi, hp, e⟩ := hat j hj
    rw [e]
    refine ((h.prow i hi).move (hkp.mono fun b' _ hb' => .inr (.inr (.inr hb')))).mono fun b' _ hb' => ?_
    rw [Rleft_low (by omega)]; exact hb'
  · exact ownsRow_keep h.nrow hkp fun b' hb' => .inr (.inl (h.nR b' hb'))
  · have := h.nR b' hb'
    rw [Rleft_low (by omega)]; exact this
  · exact (h.map.move (hkp.mono fun b' _ hb' => .inr (.inr (.inl hb')))).role fun b' hb' => by rw [Rleft_low (by omega)]; exact hb'
end Go.Proofs.Ytioidaojnbenbaa
