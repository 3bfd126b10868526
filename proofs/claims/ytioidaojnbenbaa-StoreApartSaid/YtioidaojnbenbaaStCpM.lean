/- A store's copy in the making. No walk but own. -/
import Derived.Test.YtioidaojnbenbaaStCpO
import Derived.Test.YtioidaojnbenbaaStMapC
namespace Go.Proofs.Ytioidaojnbenbaa
open Go.RowKit

theorem omLs_put4 : ∀ (l : List OM) (i : Nat) (_h : i < l.length) (m : OM), ((((omLs l).set (i * 4) (.int .i64 m.o.k)).set (i * 4 + 1) (.int .i64 (m.o.c : Nat))).set (i * 4 + 2) m.sv).set (i * 4 + 3) m.pv = omLs (l.set i m)
  | [], i, h, _ => by simp at h
  | y :: l, 0, _, m => by simp [omLs_cons]
  | y :: l, i + 1, h, m => by
    have := omLs_put4 l i (by simpa using h) m
    rw [List.set_cons_succ, omLs_cons, omLs_cons, ← this, show (i + 1) * 4 = i * 4 + 1 + 1 + 1 + 1 by omega]
    rfl
theorem infoStr8 : (Try.prog.info? 9).map (fun i => (i.zero, i.size, i.bytes)) = some (some (.string ⟨#[]⟩), 1, 16) := by kernel_rfl
theorem StM.cells1 {w : World} {g : Nat} {R : Nat → Nat} {s : St} {ms : List OM} {ov nv mv : Value} (h : StM w g R s ms ov nv mv) : ∀ u ∈ omLs ms, u.oneCell' = true := by
  intro u hu
  obtain ⟨m, hm, hu⟩ := List.mem_flatMap.1 hu
  obtain ⟨i, hi, rfl⟩ := List.getElem_of_mem hm
  obtain ⟨_, _, e⟩ := own_dslice (h.srow i hi)
  have hp := h.prow i hi
  have hpv : ∃ po, (ms[i]'hi).pv = .pointer po := by
    cases hx : (ms[i]'hi).o.x with
    | none => rw [hx] at hp; exact ⟨_, hp⟩
    | some p => rw [hx] at hp; obtain ⟨_, _, _, _, _, e, _⟩ := hp; exact ⟨_, e⟩
  obtain ⟨po, hpo⟩ := hpv
  unfold omL at hu
  rw [e, hpo] at hu
  simp only [List.mem_cons, List.not_mem_nil, or_false] at hu
  rcases hu with rfl | rfl | rfl | rfl <;> rfl
set_option maxRecDepth 100000 in
set_option maxHeartbeats 2000000 in
theorem stowno_any (lv : Value) (n : Nat) (us : List Value) (w : World) (hr : RowV w lv n 4 us) (h1 : ∀ u ∈ us, u.oneCell' = true) (hl : n ≤ 2000000) :
    Calls Try.prog 24 #[lv] w fun e w' => ∃ v', e = .returned v' ∧ w'.ownsRow w.heap.size 73 4 v' n us ∧ Below w.heap.size w w' := by
  obtain ⟨i0, hi, hz0, hz1, hz2⟩ := info_parts infoObj
  have HR := Lib.hid hr
  obtain ⟨ao, cap, rfl⟩ : ∃ a c, lv = .slice a n c := by obtain ⟨_, _, a, c, e, _⟩ := hr; exact ⟨a, c, e⟩
  clear hr
  go_enter Try.func24, Try.ntmps24
  go_wp2_with (at_builtin; go_loud (refine wpList_append_row _ rfl _ _ 66 rfl w.heap.size 73 i0 _ 4 48 Try.underlying66 hi hz0 hz1 hz2 rfl (by decide) (.slice none 0 0) 0 [] rfl (World.ownsRow_nil _ _ _ _) _ n us rfl HR.out h1 (by unfold maxLen; omega) (by omega) (by simp) ?_); go_loud (intro v' w1 hown1 hgrow hmv; rw [Nat.zero_add, List.nil_append] at hown1; have HO := Lib.hid hown1; have HG := Lib.hid hgrow; clear hown1 hgrow hmv))
  go_ret
  exact ⟨_, rfl, HO.out, (Below.refl _ _).grown HG.out (Nat.le_refl _) (fun q hq => by cases hq)⟩
set_option maxRecDepth 100000 in
set_option maxHeartbeats 2000000 in
theorem stowns_any (lv : Value) (n : Nat) (us : List Value) (w : World) (hr : RowV w lv n 1 us) (h1 : ∀ u ∈ us, u.oneCell' = true) (hl : n ≤ 2000000) :
    Calls Try.prog 26 #[lv] w fun e w' => ∃ v', e = .returned v' ∧ w'.ownsRow w.heap.size 9 1 v' n us ∧ Below w.heap.size w w' := by
  obtain ⟨i0, hi, hz0, hz1, hz2⟩ := info_parts infoStr8
  have HR := Lib.hid hr
  obtain ⟨ao, cap, rfl⟩ : ∃ a c, lv = .slice a n c := by obtain ⟨_, _, a, c, e, _⟩ := hr; exact ⟨a, c, e⟩
  clear hr
  go_enter Try.func26, Try.ntmps26
  go_wp2_with (at_builtin; go_loud (refine wpList_append_row _ rfl _ _ 30 rfl w.heap.size 9 i0 _ 1 16 Try.underlying30 hi hz0 hz1 hz2 rfl (by decide) (.slice none 0 0) 0 [] rfl (World.ownsRow_nil _ _ _ _) _ n us rfl HR.out h1 (by unfold maxLen; omega) (by omega) (by simp) ?_); go_loud (intro v' w1 hown1 hgrow hmv; rw [Nat.zero_add, List.nil_append] at hown1; have HO := Lib.hid hown1; have HG := Lib.hid hgrow; clear hown1 hgrow hmv))
  go_ret
  exact ⟨_, rfl, HO.out, (Below.refl _ _).grown HG.out (Nat.le_refl _) (fun q hq => by cases hq)⟩

/-- THE COPY in the making: so many of its objects are its own. -/
structure CpM (w0 wr : World) (g2 : Nat) (R : Nat → Nat) (s : St) (ms ms' : List OM) (rv nv mv : Value) (k : Nat) : Prop where
  bel : Below w0.heap.size w0 wr
  lo : ∀ b, R b ≠ 0 → w0.heap.size ≤ b ∧ b < wr.heap.size
  gR : R g2 = 1
  box : wr.heap[g2]? = some (.cells #[.int .i64 (s.L : Nat), .int .i64 (s.U : Nat), rv, nv, mv] 69 (0, 0))
  row : wr.ownsRow w0.heap.size 73 4 rv ms'.length (omLs ms')
  rR : ∀ b, rv.ownBlock = some b → R b = 2
  len : ms'.length = ms.length
  eqs : ms'.map OM.o = ms.map OM.o
  old : ∀ i, k ≤ i → ms'[i]? = ms[i]?
  srow : ∀ i (h : i < ms'.length), i < k → wr.ownsRow 0 35 2 (ms'[i]'h).sv (ms'[i]'h).o.s.length (vcs (ms'[i]'h).o.s)
  sR : ∀ i (h : i < ms'.length), i < k → ∀ b, (ms'[i]'h).sv.ownBlock = some b → R b = 6 + i
  prow : ∀ i (h : i < ms'.length), i < k → PxAt (fun b => R b = 5) wr (ms'[i]'h).pv (ms'[i]'h).o.x
theorem CpM.below {w0 wr w' : World} {g2 : Nat} {R : Nat → Nat} {s : St} {ms ms' : List OM} {rv nv mv : Value} {k : Nat} (h : CpM w0 wr g2 R s ms ms' rv nv mv k) (hb : Below wr.heap.size wr w') : CpM w0 w' g2 R s ms ms' rv nv mv k where
  bel := h.bel.trans (hb.mono h.bel.size)
  lo b hR := ⟨(h.lo b hR).1, Nat.lt_of_lt_of_le (h.lo b hR).2 hb.size⟩
  gR := h.gR
  box := (hb.block _ (h.lo g2 (by rw [h.gR]; omega)).2).trans h.box
  row := ownsRow_keep h.row (Keeps.of_below (P := fun _ => True) hb) fun _ _ => trivial
  rR := h.rR
  len := h.len
  eqs := h.eqs
  old := h.old
  srow i hi hk := ownsRow_keep (h.srow i hi hk) (Keeps.of_below (P := fun _ => True) hb) fun _ _ => trivial
  sR := h.sR
  prow i hi hk := (h.prow i hi hk).move (Keeps.of_below hb)
theorem CpM.rowAt {w0 wr : World} {g2 : Nat} {R : Nat → Nat} {s : St} {ms ms' : List OM} {rv nv mv : Value} {k : Nat} (h : CpM w0 wr g2 R s ms ms' rv nv mv k) {i : Nat} (hi : i < ms'.length) :
    ∃ b cap, rv = .slice (some ⟨b, 0, none⟩) ms'.length cap ∧ ms'.length ≤ cap ∧ w0.heap.size ≤ b ∧ b < wr.heap.size ∧ R b = 2 ∧ (∀ j, wr.frozen? ⟨b, j, none⟩ = false) ∧ wr.cell? ⟨b, i * 4, none⟩ = some (.int .i64 (ms'[i]'hi).o.k) ∧ wr.cell? ⟨b, i * 4 + 1, none⟩ = some (.int .i64 ((ms'[i]'hi).o.c : Nat)) ∧ wr.cell? ⟨b, i * 4 + 2, none⟩ = some (ms'[i]'hi).sv ∧ wr.cell? ⟨b, i * 4 + 3, none⟩ = some (ms'[i]'hi).pv := by
  have ho := h.row
  rcases ho.2 with ⟨_, h0⟩ | ⟨b, cap, cur, e, hlo, hc, hn, _, _, ht⟩
  · omega
  · have hcell := ho.cells (g := b) (by rw [e]; rfl)
    obtain ⟨g0, g1, g2, g3⟩ := omLs_get ms' i hi
    refine ⟨b, cap, e, hn, hlo, (Array.getElem?_eq_some_iff.1 hc).1, h.rR b (by rw [e]; rfl), fun j => frozen_heap hc j, ?_, ?_, ?_, ?_⟩
    · have := hcell _ _ g0; rwa [Addr.add_mid, Nat.zero_add] at this
    · have := hcell _ _ g1; rwa [Addr.add_mid, Nat.zero_add] at this
    · have := hcell _ _ g2; rwa [Addr.add_mid, Nat.zero_add] at this
    · have := hcell _ _ g3; rwa [Addr.add_mid, Nat.zero_add] at this
def set4 (W : World) (b i : Nat) (m : OM) : World := (((W.setCell ⟨b, i * 4, none⟩ (.int .i64 m.o.k)).setCell ⟨b, i * 4 + 1, none⟩ (.int .i64 (m.o.c : Nat))).setCell ⟨b, i * 4 + 2, none⟩ m.sv).setCell ⟨b, i * 4 + 3, none⟩ m.pv
theorem set4_keep {P : Nat → Prop} (W : World) (b i : Nat) (m : OM) (hp : ¬ P b) : Keeps P W (set4 W b i m) :=
  ((((Keeps.refl P W).set (p := ⟨b, i * 4, none⟩) hp _).set (p := ⟨b, i * 4 + 1, none⟩) hp _).set (p := ⟨b, i * 4 + 2, none⟩) hp _).set (p := ⟨b, i * 4 + 3, none⟩) hp _
theorem CpM.step {w0 W : World} {g2 : Nat} {R : Nat → Nat} {s : St} {ms ms' : List OM} {rv nv mv : Value} {k : Nat} (h : CpM w0 W g2 R s ms ms' rv nv mv k) (hk : k < ms'.length) {rb cap : Nat} (hrv : rv = .slice (some ⟨rb, 0, none⟩) ms'.length cap) (m : OM) {B M : Nat} (ho : m.o = (ms'[k]'hk).o) (hB : ∀ b, R b ≠ 0 → b < B) (hB0 : w0.heap.size ≤ B) (hBM : B ≤ M)
    (hs : W.ownsRow B 35 2 m.sv m.o.s.length (vcs m.o.s)) (hsM : ∀ b, m.sv.ownBlock = some b → b < M) (hp : PxAt (fun b => M ≤ b) W m.pv m.o.x) : ∃ R', CpM w0 (set4 W rb k m) g2 R' s ms (ms'.set k m) rv nv mv (k + 1) := by
  classical
  have hrb2 : R rb = 2 := h.rR rb (by rw [hrv]; rfl)
  have hrl := h.lo rb (by rw [hrb2]; omega)
  have hz : ∀ b, B ≤ b → R b = 0 := fun b hb => Classical.byContradiction fun hn => by have := hB b hn; omega
  have hsz : W.heap.size ≤ (set4 W rb k m).heap.size := (set4_keep (P := fun _ => False) W rb k m (fun h => h)).1
  refine ⟨fun b => if R b ≠ 0 then R b else if m.sv.ownBlock = some b then 6 + k else if M ≤ b ∧ b < W.heap.size then 5 else 0, ?_⟩
  have hold : ∀ b, R b ≠ 0 → (if R b ≠ 0 then R b else if m.sv.ownBlock = some b then 6 + k else if M ≤ b ∧ b < W.heap.size then 5 else 0) = R b := fun b hb => if_pos hb
  refine ⟨?_, fun b hb => ?_, ?_, ?_, ?_, fun b hb => ?_, ?_, ?_, fun i hi => ?_, fun i hi hik => ?_, fun i hi hik b hb => ?_, fun i hi hik => ?_⟩
  · exact (((h.bel.setCell hrl.1 _).setCell hrl.1 _).setCell hrl.1 _).setCell hrl.1 _
  · by_cases h0 : R b ≠ 0
    · exact ⟨(h.lo b h0).1, Nat.lt_of_lt_of_le (h.lo b h0).2 hsz⟩
    · simp only [if_neg h0] at hb
      by_cases h1 : m.sv.ownBlock = some b
      · have := hs.lt b h1
        exact ⟨by omega, by omega⟩
      · simp only [if_neg h1] at hb
        by_cases h2 : M ≤ b ∧ b < W.heap.size
        · exact ⟨by omega, by omega⟩
        · simp [h2] at hb
  · rw [hold g2 (by rw [h.gR]; omega)]; exact h.gR
  · have hne : g2 ≠ rb := fun e => by have := h.gR; rw [e, hrb2] at this; omega
    exact ((set4_keep (P := fun b => b ≠ rb) W rb k m (fun h => h rfl)).2 g2 (h.lo g2 (by rw [h.gR]; omega)).2 hne).trans h.box
  · have hl : (omLs ms').length = ms'.length * 4 := omLs_len ms'
    have hr := h.row
    rw [hrv] at hr
    have h1 := ownsRow_set hr (j := k * 4) (by omega) (.int .i64 m.o.k)
    have h2 := ownsRow_set h1 (j := k * 4 + 1) (by simp; omega) (.int .i64 (m.o.c : Nat))
    have h3 := ownsRow_set h2 (j := k * 4 + 2) (by simp; omega) m.sv
    have h4 := ownsRow_set h3 (j := k * 4 + 3) (by simp; omega) m.pv
    rw [omLs_put4 ms' k hk m] at h4
    rw [hrv, List.length_set]
    exact h4
  · have := h.rR b hb
    rw [hold b (by omega)]; exact this
  · rw [List.length_set]; exact h.len
  · rw [← h.eqs, List.map_set, ho]
    have e : (ms'[k]'hk).o = (ms'.map OM.o)[k]'(by simpa using hk) := by simp
    rw [e, List.set_getElem_self]
  · rw [List.getElem?_set_ne (by omega)]
    exact h.old i (by omega)
  · rw [List.length_set] at hi
    by_cases e : k = i
    · subst e
      simp only [List.getElem_set_self]
      have hrs := ownsRow_base hs (Nat.zero_le _)
      refine ownsRow_keep hrs (set4_keep (P := fun b => b ≠ rb) W rb k m (fun h => h rfl)) fun b hb e => ?_
      have := (hs.lt b hb).1
      have := hB rb (by omega)
      omega
    · rw [List.getElem_set_ne e]
      refine ownsRow_keep (h.srow i hi (by omega)) (set4_keep (P := fun b => b ≠ rb) W rb k m (fun h => h rfl)) fun b hb e => ?_
      have := h.sR i hi (by omega) b hb
      rw [e, hrb2] at this
      omega
  · rw [List.length_set] at hi
    by_cases e : k = i
    · subst e
      simp only [List.getElem_set_self] at hb
      have h1 := hz b (hs.lt b hb).1
      simp only [h1, ne_eq, not_true_eq_false, if_false, hb, if_true]
    · rw [List.getElem_set_ne e] at hb
      have := h.sR i hi (by omega) b hb
      rw [hold b (by omega)]; exact this
  · rw [List.length_set] at hi
    by_cases e : k = i
    · subst e
      simp only [List.getElem_set_self]
      refine PxAt.mono (P := fun b => M ≤ b ∧ b < W.heap.size) (PxAt.move (w := W) (hp.mono fun b hb hM => ⟨hM, hb⟩) (set4_keep W rb k m fun hh => ?_)) fun b _ hb => ?_
      · have := hB rb (by omega)
        omega
      · have h1 := hz b (by omega)
        have h2 : ¬ m.sv.ownBlock = some b := fun e => by have := hsM b e; omega
        simp only [h1, ne_eq, not_true_eq_false, if_false, h2, hb, and_self, if_true]
    · rw [List.getElem_set_ne e]
      refine PxAt.mono (PxAt.move (h.prow i hi (by omega)) (set4_keep W rb k m fun hh => ?_)) fun b _ hb => ?_
      · omega
      · rw [hold b (by omega)]; exact hb
theorem CpM.fin {w0 W Wf : World} {g g2 : Nat} {R R0 : Nat → Nat} {s : St} {ms ms' : List OM} {rv ov nv mv nv' mv' : Value} {n0 m0 : Value} (h : CpM w0 W g2 R s ms ms' rv n0 m0 ms'.length) (hM : StM w0 g R0 s ms ov nv mv) (hbf : Wf.heap[g2]? = some (.cells #[.int .i64 (s.L : Nat), .int .i64 (s.U : Nat), rv, nv', mv'] 69 (0, 0))) (hkf : Keeps (fun b => b ≠ g2) W Wf) {M : Nat}
    (hn : Wf.ownsRow W.heap.size 9 1 nv' s.ns.length (s.ns.map Value.string)) (hnM : ∀ b, nv'.ownBlock = some b → b < M) (hWM : W.heap.size ≤ M) (hm : (mv' = .map none ∧ s.ns = []) ∨ ∃ b, mv' = .map (some b) ∧ M ≤ b ∧ b < Wf.heap.size ∧ MapS Wf b s.ns) : ∃ R', StW Wf g2 R' s ∧ ∀ b, R' b ≠ 0 → w0.heap.size ≤ b := by
  classical
  have hz : ∀ b, W.heap.size ≤ b → R b = 0 := fun b hb => Classical.byContradiction fun hn => by have := (h.lo b hn).2; omega
  have hold : ∀ b, R b ≠ 0 → (if R b ≠ 0 then R b else if nv'.ownBlock = some b then 3 else if mv' = .map (some b) then 4 else 0) = R b := fun b hb => if_pos hb
  have hw0 : w0.heap.size ≤ W.heap.size := h.bel.size
  have hkr : Keeps (fun b => R b ≠ 0 ∧ R b ≠ 1) W Wf := hkf.mono fun b _ hb e => by subst e; exact hb.2 h.gR
  have hlt : ∀ b, (if R b ≠ 0 then R b else if nv'.ownBlock = some b then 3 else if mv' = .map (some b) then 4 else 0) ≠ 0 → w0.heap.size ≤ b ∧ b < Wf.heap.size := by
    intro b hb
    by_cases h0 : R b ≠ 0
    · exact ⟨(h.lo b h0).1, Nat.lt_of_lt_of_le (h.lo b h0).2 hkf.1⟩
    · simp only [if_neg h0] at hb
      by_cases h1 : nv'.ownBlock = some b
      · have := hn.lt b h1
        exact ⟨by omega, this.2⟩
      · simp only [if_neg h1] at hb
        rcases hm with ⟨e, _⟩ | ⟨b', e, h3, h4, _⟩
        · rw [e] at hb; simp at hb
        · by_cases h5 : mv' = .map (some b)
          · rw [e] at h5; injection h5 with h5; injection h5 with h5; subst h5
            exact ⟨by omega, h4⟩
          · simp [h5] at hb
  refine ⟨fun b => if R b ≠ 0 then R b else if nv'.ownBlock = some b then 3 else if mv' = .map (some b) then 4 else 0, ⟨ms', rv, nv', mv', ?_⟩, fun b hb => (hlt b hb).1⟩
  refine ⟨hM.ok, ?_, fun b hb => (hlt b hb).2, ?_, hbf, ?_, fun b hb => ?_, fun i hi => ?_, fun i hi b hb => ?_, fun i hi => ?_, ?_, fun b hb => ?_, ?_⟩
  · rw [hM.eqs, h.eqs]
  · rw [hold g2 (by rw [h.gR]; omega)]; exact h.gR
  · exact ownsRow_base (ownsRow_keep h.row hkr fun b hb => by have := h.rR b hb; omega) (Nat.zero_le _)
  · have := h.rR b hb
    rw [hold b (by omega)]; exact this
  · exact ownsRow_keep (h.srow i hi hi) hkr fun b hb => by have := h.sR i hi hi b hb; omega
  · have := h.sR i hi hi b hb
    rw [hold b (by omega)]; exact this
  · refine PxAt.mono (PxAt.move (h.prow i hi hi) (hkr.mono fun b _ hb => by omega)) fun b _ hb => ?_
    rw [hold b (by omega)]; exact hb
  · exact ownsRow_base hn (Nat.zero_le _)
  · have h1 := hz b (hn.lt b hb).1
    simp only [h1, ne_eq, not_true_eq_false, if_false, hb, if_true]
  · rcases hm with ⟨e, e2⟩ | ⟨b, e, h3, h4, h5⟩
    · exact .inl ⟨e, e2⟩
    · refine .inr ⟨b, e, ?_, h5⟩
      have h1 := hz b (by omega)
      have h2 : ¬ nv'.ownBlock = some b := fun e => by have := hnM b e; omega
      simp only [h1, ne_eq, not_true_eq_false, if_false, h2, e, if_true]
end Go.Proofs.Ytioidaojnbenbaa
