/- A list of objects to be made that came in (law07's Make). No walk here. -/
import Derived.Test.YtioidaojnbenbaaStOpen
import Derived.Test.YtioidaojnbenbaaStLaw
import Derived.Deep.MidRow
import Derived.SliceStrings
namespace Go.Proofs.Ytioidaojnbenbaa
open Go.ChangeShapes Go.WideShapes Go.ChangeAt Go.RowKit

set_option maxRecDepth 100000 in
theorem cellsVal : Try.prog.cellsOf 35 = 2 := by kernel_rfl
set_option maxRecDepth 100000 in
theorem cellsIn : Try.prog.cellsOf 3 = 1 := by kernel_rfl
set_option maxRecDepth 100000 in
theorem cellsVs : Try.prog.cellsOf 33 = 1 := by kernel_rfl
theorem gatherA {α : Type} {sz : Nat} {P : Nat → List Value → α → Prop} : ∀ len, (∀ i, i < len → ∃ cs D, cs.length = sz ∧ P i cs D) → ∃ (l : List α) (us : List Value), l.length = len ∧ us.length = len * sz ∧ ∀ (i : Nat) (h : i < l.length), P i ((us.drop (i * sz)).take sz) (l[i]'h) := by
  intro len
  induction len with
  | zero => intro _; exact ⟨[], [], rfl, by simp, fun i h => by simp at h⟩
  | succ n ih =>
    intro h
    obtain ⟨l, us, h1, h2, h3⟩ := ih fun i hi => h i (by omega)
    obtain ⟨cs, D, h4, h5⟩ := h n (by omega)
    refine ⟨l ++ [D], us ++ cs, by simp [h1], by rw [List.length_append, h2, h4, Nat.succ_mul], fun i hi => ?_⟩
    simp only [List.length_append, List.length_singleton] at hi
    rcases Nat.lt_or_ge i n with hin | hin
    · have h6 := h3 i (by omega)
      have hle : i * sz + sz ≤ n * sz := by rw [← Nat.succ_mul]; exact Nat.mul_le_mul_right _ hin
      have e1 : ((us ++ cs).drop (i * sz)).take sz = (us.drop (i * sz)).take sz := by
        rw [List.drop_append_of_le_length (by omega), List.take_append_of_le_length (by rw [List.length_drop]; omega)]
      have e2 : (l ++ [D])[i] = l[i]'(by omega) := List.getElem_append_left (by omega)
      rw [e1, e2]
      exact h6
    · have : i = n := by omega
      subst this
      have e1 : ((us ++ cs).drop (i * sz)).take sz = cs := by
        rw [List.drop_append_of_le_length (by omega), List.drop_of_length_le (by omega), List.nil_append, List.take_of_length_le (by omega)]
      have e2 : (l ++ [D])[i]'(by simp; omega) = D := by
        rw [List.getElem_append_right (by omega)]
        simp [h1]
      rw [e1, e2]
      exact h5
theorem row_gather {W : World} {ad : Addr} {len cap sz : Nat} {us : List Value} (hsz : 0 < sz) (h1 : us.length = len * sz) (h2 : len ≤ maxLen) (h3 : len ≤ cap) (hc : ∀ i, i < len → W.cells? 0 (ad.add (i * sz)) sz = some ((us.drop (i * sz)).take sz)) : RowV W (.slice (some ad) len cap) len sz us := by
  refine ⟨h1, h2, some ad, cap, rfl, h3, ?_⟩
  by_cases h00 : len = 0
  · exact .inl ⟨h00, fun h => by cases h⟩
  · have hpos : 0 < us.length := by rw [h1]; exact Nat.mul_pos (by omega) hsz
    have hc0 := (World.cells?_some (hc 0 (by omega))).2.2 0 (by omega)
    obtain ⟨b, off, spot⟩ := ad
    have hcs : ((us.drop (0 * sz)).take sz)[0]? = some us[0] := by
      rw [Nat.zero_mul, List.drop_zero, List.getElem?_take, if_pos hsz, List.getElem?_eq_getElem hpos]
    rw [hcs] at hc0
    have hspot : spot = none := by simpa [Addr.add] using World.cell?_spot hc0
    subst hspot
    refine .inr ⟨b, off, rfl, World.block_lt_of_cell? W _ (by rw [Addr.add_mid, Addr.add_mid] at hc0; exact hc0), fun j u hu => ?_⟩
    have hj : j < us.length := (List.getElem?_eq_some_iff.1 hu).1
    have hdm := Nat.div_add_mod' j sz
    have hlt : j / sz < len := Nat.div_lt_of_lt_mul (by rw [Nat.mul_comm, ← h1]; exact hj)
    have hc1 := (World.cells?_some (hc (j / sz) hlt)).2.2 (j % sz) (Nat.mod_lt _ hsz)
    rw [Addr.add_mid, Addr.add_mid, List.getElem?_take, if_pos (Nat.mod_lt _ hsz), List.getElem?_drop, hdm, hu, Nat.add_assoc, hdm] at hc1
    exact hc1
set_option maxRecDepth 100000 in
theorem trod_val {H : Type} {enc : TypeId × Value → H} {W : World} {n : Nat} {cs : List Value} {x : DataW H × List MemPlace} (h : DataW.trod enc Try.prog W 0 (fun _ => true) true n 35 cs = some x) : ∃ v : Int × Int, cs = vc v := by
  obtain ⟨xs, m, hn, _, hl, hlen, hfl⟩ := DataW.trod_struct Try.underlying35 h
  rw [cellsVal] at hl
  obtain ⟨c0, c1, rfl⟩ : ∃ c0 c1, cs = [c0, c1] := by
    match cs, hl with
    | [c0, c1], _ => exact ⟨c0, c1, rfl⟩
  obtain ⟨y0, y1, rfl⟩ : ∃ y0 y1, xs = [y0, y1] := by
    match xs, hlen with
    | [y0, y1], _ => exact ⟨y0, y1, rfl⟩
  have h0 := hfl 0 _ rfl
  have h1 := hfl 1 _ rfl
  simp [cellsIn] at h0
  simp [cellsIn] at h1
  obtain ⟨a, e0, _, _⟩ := DataW.trod_int Try.underlying3 h0
  obtain ⟨b, e1, _, _⟩ := DataW.trod_int Try.underlying3 h1
  simp only [List.cons.injEq, and_true] at e0 e1
  exact ⟨(a, b), by rw [e0, e1]; rfl⟩
theorem vcs_of {l : List (Int × Int)} {us : List Value} (h1 : us.length = l.length * 2) (h : ∀ (i : Nat) (hi : i < l.length), (us.drop (i * 2)).take 2 = vc (l[i]'hi)) : us = vcs l := by
  apply List.ext_getElem?
  intro j
  rcases Nat.lt_or_ge j us.length with hj | hj
  · have hi : j / 2 < l.length := by omega
    have h2 := h (j / 2) hi
    have h3 := vcs_get l (j / 2) hi
    have h4 : ((us.drop (j / 2 * 2)).take 2)[j % 2]? = us[j]? := by rw [List.getElem?_take, if_pos (by omega), List.getElem?_drop, show j / 2 * 2 + j % 2 = j by omega]
    rw [h2] at h4
    rw [← h4]
    rcases (show j % 2 = 0 ∨ j % 2 = 1 by omega) with e | e
    · have h5 := h3.1
      rw [show j / 2 * 2 = j by omega] at h5
      rw [e, h5]
      rfl
    · have h5 := h3.2
      rw [show j / 2 * 2 + 1 = j by omega] at h5
      rw [e, h5]
      rfl
  · rw [List.getElem?_eq_none hj, List.getElem?_eq_none (by rw [vcs_len]; omega)]
set_option maxRecDepth 100000 in
theorem trod_vals {H : Type} {enc : TypeId × Value → H} {W : World} {n : Nat} {v : Value} {x : DataW H × List MemPlace} (h : DataW.trod enc Try.prog W 0 (fun _ => true) true n 33 [v] = some x) : ∃ l : List (Int × Int), RowV W v l.length 2 (vcs l) := by
  rcases DataW.trod_slice Try.underlying33 h with ⟨e3, _⟩ | ⟨ad, len, cap, elems, rest, n3, hn3, e3, _, _, hlc, hcm, hel, hea, _, _⟩
  · simp only [List.cons.injEq, and_true] at e3
    subst e3
    exact ⟨[], vrow0 _⟩
  · simp only [List.cons.injEq, and_true] at e3
    subst e3
    obtain ⟨l, us, hl1, hl2, hl3⟩ := gatherA (sz := 2) (P := fun i cs' (D : Int × Int) => W.cells? 0 (ad.add (i * 2)) 2 = some cs' ∧ cs' = vc D) len fun i hi => by
      have hi2 := hea i hi
      rw [cellsVal] at hi2
      rw [List.getElem?_eq_getElem (by omega)] at hi2
      rw [Option.bind_eq_some_iff] at hi2
      obtain ⟨cs', h5, h6⟩ := hi2
      obtain ⟨D, hD⟩ := trod_val h6
      exact ⟨cs', D, by rw [hD]; rfl, h5, hD⟩
    have hus := vcs_of (by rw [hl1]; exact hl2) fun i hi => (hl3 i hi).2
    refine ⟨l, ?_⟩
    rw [← hus, hl1]
    exact row_gather (by decide) hl2 (by omega) (by omega) fun i hi => (hl3 i (by omega)).1

/-- One of them. -/
structure MkE where
  k : Int
  sv : Value
  l : List (Int × Int)
  back : Int
  to : Int × Int
def mkL (e : MkE) : List Value := [.int .i64 e.k, e.sv, .int .i64 e.back, .int .i64 e.to.1, .int .i64 e.to.2]
/-- How they lie. -/
def MksAt (W : World) (v : Value) (es : List MkE) : Prop := ∃ us, RowV W v es.length 5 us ∧ ∀ (i : Nat) (hi : i < es.length), (us.drop (i * 5)).take 5 = mkL (es[i]'hi) ∧ RowV W (es[i]'hi).sv (es[i]'hi).l.length 2 (vcs (es[i]'hi).l)
theorem MksAt.below {W W' : World} {v : Value} {es : List MkE} (h : MksAt W v es) (hb : Below W.heap.size W W') : MksAt W' v es := by
  obtain ⟨us, h1, h2⟩ := h
  exact ⟨us, h1.below hb, fun i hi => ⟨(h2 i hi).1, (h2 i hi).2.below hb⟩⟩
set_option maxRecDepth 100000 in
theorem open_value {H : Type} {enc : TypeId × Value → H} {W : World} {base : Nat} {v : Value} {d : DataW H} {p : List MemPlace} (hv : Value.okWide Try.prog W .any base 35 v)
    (h : DataW.Trod enc Try.prog W 0 (fun _ => true) true 35 v d p) : ∃ x : Int × Int, v = .agg #[.int .i64 x.1, .int .i64 x.2] := by
  obtain ⟨cs, rfl, hsz⟩ := okWide_struct Try.underlying35 hv
  obtain ⟨fuel, hf⟩ := h
  obtain ⟨x, hx⟩ := trod_val hf
  refine ⟨x, ?_⟩
  have : cs.toList = vc x := hx
  rw [show cs = (vc x).toArray by rw [← this]]
  rfl
/-- The i-th one's cells. -/
theorem MksAt.at {W : World} {v : Value} {es : List MkE} (h : MksAt W v es) {i : Nat} (hi : i < es.length) : ∃ b off cap, v = .slice (some ⟨b, off, none⟩) es.length cap ∧ b < W.heap.size ∧ W.cell? ⟨b, off + i * 5, none⟩ = some (.int .i64 (es[i]'hi).k) ∧ W.cell? ⟨b, off + i * 5 + 1, none⟩ = some (es[i]'hi).sv ∧ W.cell? ⟨b, off + i * 5 + 2, none⟩ = some (.int .i64 (es[i]'hi).back) ∧ W.cell? ⟨b, off + i * 5 + 3, none⟩ = some (.int .i64 (es[i]'hi).to.1) ∧ W.cell? ⟨b, off + i * 5 + 4, none⟩ = some (.int .i64 (es[i]'hi).to.2) := by
  obtain ⟨us, ⟨hlen, _, ao, cap, rfl, hc, hr⟩, h2⟩ := h
  rcases hr with ⟨h0, _⟩ | ⟨b, off, rfl, hb, hcell⟩
  · omega
  · have hat : ∀ j, j < 5 → us[i * 5 + j]? = (mkL (es[i]'hi))[j]? := fun j hj => by
      rw [← (h2 i hi).1, List.getElem?_take, if_pos hj, List.getElem?_drop]
    refine ⟨b, off, cap, rfl, hb, ?_, ?_, ?_, ?_, ?_⟩
    · exact hcell (i * 5) _ ((hat 0 (by omega)).trans rfl)
    · have := hcell (i * 5 + 1) _ ((hat 1 (by omega)).trans rfl); rwa [← Nat.add_assoc] at this
    · have := hcell (i * 5 + 2) _ ((hat 2 (by omega)).trans rfl); rwa [← Nat.add_assoc] at this
    · have := hcell (i * 5 + 3) _ ((hat 3 (by omega)).trans rfl); rwa [← Nat.add_assoc] at this
    · have := hcell (i * 5 + 4) _ ((hat 4 (by omega)).trans rfl); rwa [← Nat.add_assoc] at this
end Go.Proofs.Ytioidaojnbenbaa
