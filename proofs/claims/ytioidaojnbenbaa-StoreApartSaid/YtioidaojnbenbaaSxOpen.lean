/- A piece of syntax that came in, with all that stands in it. No walk here. -/
import Derived.Test.YtioidaojnbenbaaStOpM
import Derived.SizedLaws
namespace Go.Proofs.Ytioidaojnbenbaa
open Go.ChangeShapes Go.WideShapes Go.ChangeAt Go.RowKit

/-- A piece of syntax: kind, text, number's sign and limbs, what stands in it, where it stands, marks, substitutions. -/
inductive Sx where
  | mk (k : Int) (t : ByteArray) (n : Bool) (r : List Nat) (l : List Sx) (a : Int) (m s : List Int)
def Sx.k : Sx → Int | .mk k _ _ _ _ _ _ _ => k
def Sx.t : Sx → ByteArray | .mk _ t _ _ _ _ _ _ => t
def Sx.n : Sx → Bool | .mk _ _ n _ _ _ _ _ => n
def Sx.r : Sx → List Nat | .mk _ _ _ r _ _ _ _ => r
def Sx.l : Sx → List Sx | .mk _ _ _ _ l _ _ _ => l
def Sx.a : Sx → Int | .mk _ _ _ _ _ a _ _ => a
def Sx.m : Sx → List Int | .mk _ _ _ _ _ _ m _ => m
def Sx.s : Sx → List Int | .mk _ _ _ _ _ _ _ s => s
/-- The eight cells of a piece, and all behind them. -/
inductive SLay (w : World) : Sx → List Value → Prop
  | mk {k : Int} {t : ByteArray} {n : Bool} {r : List Nat} {l : List Sx} {a : Int} {m s : List Int} {lv av mv sv : Value} {us : List Value} (ht : t.size ≤ maxLen) (hlim : ∀ x ∈ r, x < 4294967296) (hr : RowV w lv r.length 1 (ucs r)) (hrow : RowV w av l.length 8 us) (hm : RowV w mv m.length 1 (ics .i64 m)) (hs : RowV w sv s.length 1 (ics .i64 s))
      (hin : ∀ (i : Nat) (h : i < l.length), SLay w (l[i]'h) ((us.drop (i * 8)).take 8)) : SLay w (.mk k t n r l a m s) [.int .i64 k, .string t, .bool n, lv, av, .int .i64 a, mv, sv]
theorem SLay.keep {w w' : World} (hb : Below w.heap.size w w') {d : Sx} {us : List Value} (h : SLay w d us) : SLay w' d us := by
  induction h with
  | mk ht hlim hr hrow hm hs hin ih => exact .mk ht hlim (hr.below hb) (hrow.below hb) (hm.below hb) (hs.below hb) ih
theorem SLay.len {w : World} {d : Sx} {us : List Value} (h : SLay w d us) : us.length = 8 := by cases h; rfl
theorem SLay.open' {w : World} {d : Sx} {us : List Value} (h : SLay w d us) : ∃ lv av mv sv vs, us = [.int .i64 d.k, .string d.t, .bool d.n, lv, av, .int .i64 d.a, mv, sv] ∧ d.t.size ≤ maxLen ∧ (∀ x ∈ d.r, x < 4294967296) ∧ RowV w lv d.r.length 1 (ucs d.r) ∧ RowV w av d.l.length 8 vs ∧ RowV w mv d.m.length 1 (ics .i64 d.m) ∧ RowV w sv d.s.length 1 (ics .i64 d.s) ∧ ∀ (i : Nat) (h : i < d.l.length), SLay w (d.l[i]'h) ((vs.drop (i * 8)).take 8) := by
  cases h with
  | mk ht hlim hr hrow hm hs hin => exact ⟨_, _, _, _, _, rfl, ht, hlim, hr, hrow, hm, hs, hin⟩

set_option maxRecDepth 100000 in
theorem cellsSx : Try.prog.cellsOf 50 = 8 := by kernel_rfl
set_option maxRecDepth 100000 in
theorem cellsNm8 : Try.prog.cellsOf 46 = 2 := by kernel_rfl
set_option maxRecDepth 100000 in
theorem cellsSt8 : Try.prog.cellsOf 9 = 1 := by kernel_rfl
set_option maxRecDepth 100000 in
theorem cellsSl8 : Try.prog.cellsOf 47 = 1 := by kernel_rfl
set_option maxRecDepth 100000 in
theorem cellsIs8 : Try.prog.cellsOf 48 = 1 := by kernel_rfl
set_option maxRecDepth 100000 in
theorem cellsBo8 : Try.prog.cellsOf 4 = 1 := by kernel_rfl
set_option maxRecDepth 100000 in
theorem cellsLi8 : Try.prog.cellsOf 44 = 1 := by kernel_rfl
set_option maxRecDepth 100000 in
theorem cellsLu8 : Try.prog.cellsOf 108 = 1 := by kernel_rfl
theorem list8 {cs : List Value} (h : cs.length = 8) : ∃ a b c d e f g i, cs = [a, b, c, d, e, f, g, i] := by
  match cs, h with
  | [a, b, c, d, e, f, g, i], _ => exact ⟨a, b, c, d, e, f, g, i, rfl⟩
theorem row_nil8 (w : World) (size : Nat) : RowV w (.slice none 0 0) 0 size [] := ⟨by simp, Nat.zero_le _, none, 0, rfl, Nat.le_refl _, .inl ⟨rfl, fun _ => rfl⟩⟩
theorem row_ints {w : World} {a : Addr} {len cap : Nat} {us : List Value} (h1 : us.length = len) (h2 : len ≤ maxLen) (h3 : len ≤ cap) (hc : 0 < len → ∃ b off, a = ⟨b, off, none⟩ ∧ ∀ j (h : j < us.length), w.cell? ⟨b, off + j, none⟩ = some (us[j]'h)) : RowV w (.slice (some a) len cap) len 1 us := by
  refine ⟨by omega, h2, some a, cap, rfl, h3, ?_⟩
  by_cases h0 : len = 0
  · exact .inl ⟨h0, fun h => by cases h⟩
  · obtain ⟨b, off, rfl, hcc⟩ := hc (Nat.pos_of_ne_zero h0)
    refine .inr ⟨b, off, rfl, World.block_lt_of_cell? w _ (hcc 0 (by omega)), fun j u hu => ?_⟩
    obtain ⟨hj, rfl⟩ := List.getElem?_eq_some_iff.1 hu
    exact hcc j hj
set_option maxRecDepth 100000 in
theorem trod_row_i {H : Type} {enc : TypeId × Value → H} {W : World} {n : Nat} {v : Value} {x : DataW H × List MemPlace} (h : DataW.trod enc Try.prog W 0 (fun _ => true) true n 48 [v] = some x) : ∃ zs, RowV W v zs.length 1 (ics .i64 zs) := by
  rcases open_ints Try.underlying48 Try.underlying3 cellsIn h with ⟨e1, _⟩ | ⟨a, len, cap, zs, e1, _, hl, hcm, hz, _, hcell, _⟩
  · simp only [List.cons.injEq, and_true] at e1
    subst e1
    exact ⟨[], row_nil8 _ _⟩
  · simp only [List.cons.injEq, and_true] at e1
    subst e1
    simp only [if_true] at hz
    have e2 : (zs.take len).length = len := by simp; omega
    refine ⟨zs.take len, ?_⟩
    rw [e2]
    refine row_ints (by unfold ics; simp; omega) (by omega) hl fun h0 => ?_
    obtain ⟨b, off, rfl, hc⟩ := ints_at hcell (show 0 < zs.length by omega)
    refine ⟨b, off, rfl, fun j hj => ?_⟩
    have hj2 : j < len := by unfold ics at hj; simp at hj; omega
    rw [hc j (show j < zs.length by omega)]
    unfold ics
    simp [show j < zs.length by omega]
set_option maxRecDepth 100000 in
theorem trod_row_u {H : Type} {enc : TypeId × Value → H} {W : World} {n : Nat} {v : Value} {x : DataW H × List MemPlace} (h : DataW.trod enc Try.prog W 0 (fun _ => true) true n 44 [v] = some x) : ∃ xs : List Nat, RowV W v xs.length 1 (ucs xs) ∧ ∀ x ∈ xs, x < 4294967296 := by
  rcases open_ints Try.underlying44 Try.underlying108 cellsLu8 h with ⟨e1, _⟩ | ⟨a, len, cap, zs, e1, _, hl, hcm, hz, _, hcell, hwz⟩
  · simp only [List.cons.injEq, and_true] at e1
    subst e1
    exact ⟨[], row_nil8 _ _, fun x hx => by cases hx⟩
  · simp only [List.cons.injEq, and_true] at e1
    subst e1
    simp only [if_true] at hz
    have hp : ∀ n ∈ zs, 0 ≤ n ∧ n < 4294967296 := fun n hn => by
      have := hwz n hn
      simp [Lit.wf, IntKind.min, IntKind.max, IntKind.signed, IntKind.bits] at this
      omega
    have e2 : ((zs.take len).map Int.toNat).length = len := by simp; omega
    refine ⟨(zs.take len).map Int.toNat, ?_, fun x hx => ?_⟩
    · rw [e2]
      refine row_ints (by unfold ucs; simp; omega) (by omega) hl fun h0 => ?_
      obtain ⟨b, off, rfl, hc⟩ := ints_at hcell (show 0 < zs.length by omega)
      refine ⟨b, off, rfl, fun j hj => ?_⟩
      have hj2 : j < len := by unfold ucs at hj; simp at hj; omega
      have hz0 := (hp zs[j] (List.getElem_mem _)).1
      rw [hc j (show j < zs.length by omega)]
      unfold ucs
      simp [show j < zs.length by omega]
      omega
    · obtain ⟨z, hz1, rfl⟩ := List.mem_map.1 hx
      have := hp z (List.mem_of_mem_take hz1)
      omega

set_option maxRecDepth 100000 in
theorem trod_stx {H : Type} {enc : TypeId × Value → H} {W : World} : ∀ (m fuel : Nat), fuel ≤ m → ∀ (cs : List Value) (x : DataW H × List MemPlace), DataW.trod enc Try.prog W 0 (fun _ => true) true fuel 50 cs = some x → ∃ D : Sx, SLay W D cs := by
  intro m
  induction m with
  | zero =>
    intro fuel hf cs x h
    have : fuel = 0 := by omega
    subst this
    simp [DataW.trod] at h
  | succ m ih =>
    intro fuel hf cs x h
    obtain ⟨xs, n, hn, _, hl, hlen, hfl⟩ := DataW.trod_struct Try.underlying50 h
    rw [cellsSx] at hl
    obtain ⟨c0, c1, c2, c3, c4, c5, c6, c7, rfl⟩ := list8 hl
    obtain ⟨y0, y1, y2, y3, y4, y5, y6, rfl⟩ : ∃ y0 y1 y2 y3 y4 y5 y6, xs = [y0, y1, y2, y3, y4, y5, y6] := by
      match xs, hlen with
      | [y0, y1, y2, y3, y4, y5, y6], _ => exact ⟨y0, y1, y2, y3, y4, y5, y6, rfl⟩
    have h0 := hfl 0 _ rfl
    have h1 := hfl 1 _ rfl
    have h2 := hfl 2 _ rfl
    have h3 := hfl 3 _ rfl
    have h4 := hfl 4 _ rfl
    have h5 := hfl 5 _ rfl
    have h6 := hfl 6 _ rfl
    clear hfl
    simp [cellsIn] at h0
    simp [cellsSt8] at h1
    simp [cellsNm8] at h2
    simp [cellsSl8] at h3
    simp [cellsIn] at h4
    simp [cellsIs8] at h5
    simp [cellsIs8] at h6
    obtain ⟨k, e0, _, _⟩ := DataW.trod_int Try.underlying3 h0
    obtain ⟨s, e1, _, hsz⟩ := DataW.trod_string Try.underlying9 h1
    obtain ⟨a, e4, _, _⟩ := DataW.trod_int Try.underlying3 h4
    simp only [List.cons.injEq, and_true] at e0 e1 e4
    subst e0
    subst e1
    subst e4
    obtain ⟨z0, z1, n2, _, _, g0, g1⟩ := trod_struct2 Try.underlying46 h2
    simp only [cellsBo8, cellsLi8, List.drop_zero, List.drop_succ_cons, List.take_succ_cons, List.take_zero] at g0 g1
    obtain ⟨ng, e2, _⟩ := DataW.trod_bool Try.underlying4 g0
    simp only [List.cons.injEq, and_true] at e2
    subst e2
    obtain ⟨r, hr, hlim⟩ := trod_row_u g1
    obtain ⟨ms, hms⟩ := trod_row_i h5
    obtain ⟨ss, hss⟩ := trod_row_i h6
    rcases DataW.trod_slice Try.underlying47 h3 with ⟨e3, _⟩ | ⟨ad, len, cap, elems, rest, n3, hn3, e3, _, _, hlc, hcm, hel, hea, _, _⟩
    · simp only [List.cons.injEq, and_true] at e3
      subst e3
      exact ⟨.mk k s ng r [] a ms ss, .mk (us := []) hsz hlim hr (row_nil8 _ _) hms hss fun i hi => by simp at hi⟩
    · simp only [List.cons.injEq, and_true] at e3
      subst e3
      obtain ⟨l, us, hl1, hl2, hl3⟩ := gatherA (sz := 8) (P := fun i cs' D => W.cells? 0 (ad.add (i * 8)) 8 = some cs' ∧ SLay W D cs') len fun i hi => by
        have hi2 := hea i hi
        rw [cellsSx] at hi2
        rw [List.getElem?_eq_getElem (by omega)] at hi2
        rw [Option.bind_eq_some_iff] at hi2
        obtain ⟨cs', h5, h6⟩ := hi2
        obtain ⟨D, hD⟩ := ih n3 (by omega) cs' _ h6
        exact ⟨cs', D, hD.len, h5, hD⟩
      refine ⟨.mk k s ng r l a ms ss, .mk (us := us) hsz hlim hr ?_ hms hss fun i hi => (hl3 i hi).2⟩
      rw [hl1]
      exact row_gather (by decide) hl2 (by omega) (by omega) fun i hi => (hl3 i (by omega)).1
set_option maxRecDepth 100000 in
/-- A piece of syntax that came in. -/
theorem open_stx {H : Type} {enc : TypeId × Value → H} {W : World} {base : Nat} {v : Value} {d : DataW H} {p : List MemPlace} (hv : Value.okWide Try.prog W .any base 50 v)
    (h : DataW.Trod enc Try.prog W 0 (fun _ => true) true 50 v d p) : ∃ (D : Sx), ∃ us : List Value, v = .agg us.toArray ∧ SLay W D us := by
  obtain ⟨cs, rfl, hsz⟩ := okWide_struct Try.underlying50 hv
  obtain ⟨fuel, hf⟩ := h
  obtain ⟨D, hD⟩ := trod_stx fuel fuel (Nat.le_refl _) _ _ hf
  exact ⟨D, cs.toList, by simp, hD⟩
end Go.Proofs.Ytioidaojnbenbaa
