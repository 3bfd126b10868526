/- A list of acts that came in (law06's Act). No walk here. -/
import Derived.Test.YtioidaojnbenbaaStOpM
import Derived.SizedLaws
namespace Go.Proofs.Ytioidaojnbenbaa
open Go.ChangeShapes Go.WideShapes Go.ChangeAt Go.RowKit

set_option maxRecDepth 100000 in
theorem cellsAct : Try.prog.cellsOf 37 = 9 := by kernel_rfl
set_option maxRecDepth 100000 in
theorem cellsStA : Try.prog.cellsOf 9 = 1 := by kernel_rfl
/-- One of them. -/
structure AcE where
  d : Int
  k : Int
  i : Int
  sv : Value
  l : List (Int × Int)
  v : Int × Int
  x : Int × Int
  t : ByteArray
def acL (e : AcE) : List Value := [.int .i64 e.d, .int .i64 e.k, .int .i64 e.i, e.sv, .int .i64 e.v.1, .int .i64 e.v.2, .int .i64 e.x.1, .int .i64 e.x.2, .string e.t]
/-- How they lie. -/
def ActsAt (W : World) (v : Value) (es : List AcE) : Prop := ∃ us, RowV W v es.length 9 us ∧ ∀ (i : Nat) (hi : i < es.length), (us.drop (i * 9)).take 9 = acL (es[i]'hi) ∧ RowV W (es[i]'hi).sv (es[i]'hi).l.length 2 (vcs (es[i]'hi).l) ∧ (es[i]'hi).t.size ≤ reachBytes
theorem ActsAt.below {W W' : World} {v : Value} {es : List AcE} (h : ActsAt W v es) (hb : Below W.heap.size W W') : ActsAt W' v es := by
  obtain ⟨us, h1, h2⟩ := h
  exact ⟨us, h1.below hb, fun i hi => ⟨(h2 i hi).1, (h2 i hi).2.1.below hb, (h2 i hi).2.2⟩⟩
set_option maxRecDepth 100000 in
theorem trod_act {H : Type} {enc : TypeId × Value → H} {W : World} {n : Nat} {cs : List Value} {x : DataW H × List MemPlace} (h : DataW.trod enc Try.prog W 0 (fun _ => true) true n 37 cs = some x) : ∃ e : AcE, cs = acL e ∧ RowV W e.sv e.l.length 2 (vcs e.l) ∧ ∃ ps, x.1 = .agg ps ∧ ps[6]? = some (.lit (.string e.t.data.toList)) := by
  obtain ⟨xs, m, hn, hx, hl, hlen, hfl⟩ := DataW.trod_struct Try.underlying37 h
  rw [cellsAct] at hl
  obtain ⟨c0, c1, c2, c3, c4, c5, c6, c7, c8, rfl⟩ : ∃ c0 c1 c2 c3 c4 c5 c6 c7 c8, cs = [c0, c1, c2, c3, c4, c5, c6, c7, c8] := by
    match cs, hl with
    | [c0, c1, c2, c3, c4, c5, c6, c7, c8], _ => exact ⟨c0, c1, c2, c3, c4, c5, c6, c7, c8, rfl⟩
  obtain ⟨y0, y1, y2, y3, y4, y5, y6, rfl⟩ : ∃ y0 y1 y2 y3 y4 y5 y6, xs = [y0, y1, y2, y3, y4, y5, y6] := by
    match xs, hlen with
    | [y0, y1, y2, y3, y4, y5, y6], _ => exact ⟨y0, y1, y2, y3, y4, y5, y6, rfl⟩
  have h0 := hfl 0 _ rfl
  have h1 := hfl 1 _ rfl
  have h2 := hfl 2 _ rfl
  have h3 := hfl 3 _ rfl
  have h4 := hfl 4 _ rfl
  have h5 := hfl 5 _ rfl
  have h6 := hfl 6 _ rfl
  simp [cellsIn] at h0
  simp [cellsIn] at h1
  simp [cellsIn] at h2
  simp [cellsVs] at h3
  simp [cellsVal] at h4
  simp [cellsVal] at h5
  simp [cellsStA] at h6
  obtain ⟨a, e0, _, _⟩ := DataW.trod_int Try.underlying3 h0
  obtain ⟨b, e1, _, _⟩ := DataW.trod_int Try.underlying3 h1
  obtain ⟨c, e2, _, _⟩ := DataW.trod_int Try.underlying3 h2
  obtain ⟨l, hlr⟩ := trod_vals h3
  obtain ⟨v, hv⟩ := trod_val h4
  obtain ⟨u, hu⟩ := trod_val h5
  obtain ⟨t, e6, ey, _⟩ := DataW.trod_string Try.underlying9 h6
  simp only [List.cons.injEq, and_true] at e0 e1 e2 e6
  simp only [vc, List.cons.injEq, and_true] at hv hu
  refine ⟨⟨a, b, c, c3, l, v, u, t⟩, by rw [e0, e1, e2, hv.1, hv.2, hu.1, hu.2, e6]; rfl, hlr, _, by rw [hx], ?_⟩
  show some y6.1 = _
  rw [ey]
theorem act_weighs {H : Type} {t : ByteArray} {ps : List (DataW H)} (h : ps[6]? = some (.lit (.string t.data.toList))) : t.size ∈ (DataW.agg ps).weights Try.prog 37 := by
  rw [DataW.weights, Try.underlying37]
  refine DataW.weights_mem_each (j := 6) rfl h _ ?_
  rw [DataW.weights]
  exact List.mem_singleton.2 (by rw [Array.length_toList]; rfl)
theorem weights_mem_all {H : Type} {P : Program} {e : TypeId} : ∀ {ds : List (DataW H)} {j : Nat} {d : DataW H}, ds[j]? = some d → ∀ n ∈ d.weights P e, n ∈ DataW.weightsAll P e ds
  | [], _, _, h, _, _ => by simp at h
  | d0 :: ds, 0, d, h, n, hn => by
    simp only [List.getElem?_cons_zero, Option.some.injEq] at h
    subst h
    rw [DataW.weightsAll, List.mem_append]
    exact .inl hn
  | d0 :: ds, j + 1, d, h, n, hn => by
    simp only [List.getElem?_cons_succ] at h
    rw [DataW.weightsAll, List.mem_append]
    exact .inr (weights_mem_all h n hn)
set_option maxRecDepth 100000 in
theorem open_acts {H : Type} {enc : TypeId × Value → H} {W : World} {base : Nat} {v : Value} {d : DataW H} {p : List MemPlace} {ts : List TypeId} {ds : List (DataW H)} {j : Nat} (hv : Value.okWide Try.prog W .any base 22 v)
    (h : DataW.Trod enc Try.prog W 0 (fun _ => true) true 22 v d p) (hsz : (DataW.weightsEach Try.prog ts ds).all (· ≤ reachBytes) = true) (ht : ts[j]? = some 22) (hd : ds[j]? = some d) : ∃ es, ActsAt W v es := by
  obtain ⟨a0, l0, c0, rfl⟩ := okWide_slice Try.underlying22 hv
  obtain ⟨fuel, hf⟩ := h
  rcases DataW.trod_slice Try.underlying22 hf with ⟨e3, hx3⟩ | ⟨ad, len, cap, elems, rest, n3, hn3, e3, hx3, _, hlc, hcm, hel, hea, _, _⟩
  · simp only [Value.cells, List.cons.injEq, and_true] at e3
    rw [e3]
    exact ⟨[], [], ⟨rfl, by simp, none, 0, rfl, by simp, .inl ⟨rfl, fun _ => rfl⟩⟩, fun i hi => by simp at hi⟩
  · simp only [Value.cells, List.cons.injEq, and_true] at e3
    rw [e3]
    simp only [Prod.mk.injEq] at hx3
    obtain ⟨rfl, _⟩ := hx3
    have hwt : ∀ (i : Nat) (y : DataW H × List MemPlace), elems[i]? = some y → ∀ n ∈ y.1.weights Try.prog 37, n ≤ reachBytes := by
      intro i y hy n hn
      have h1 : n ∈ (DataW.slice (elems.map (·.1)) (rest.map (·.1))).weights Try.prog 22 := by
        rw [DataW.weights, Try.underlying22]
        simp only [List.mem_cons, List.mem_append]
        exact .inr (.inl (weights_mem_all (j := i) (by rw [List.getElem?_map, hy]; rfl) n hn))
      have := List.all_eq_true.1 hsz _ (DataW.weights_mem_each ht hd _ h1)
      simpa using this
    obtain ⟨l, us, hl1, hl2, hl3⟩ := gatherA (sz := 9) (P := fun i cs' (D : AcE) => W.cells? 0 (ad.add (i * 9)) 9 = some cs' ∧ cs' = acL D ∧ RowV W D.sv D.l.length 2 (vcs D.l) ∧ D.t.size ≤ reachBytes) len fun i hi => by
      have hi2 := hea i hi
      rw [cellsAct] at hi2
      rw [List.getElem?_eq_getElem (by omega)] at hi2
      rw [Option.bind_eq_some_iff] at hi2
      obtain ⟨cs', h5, h6⟩ := hi2
      obtain ⟨D, hD, hR, ps, hps, h7⟩ := trod_act h6
      refine ⟨cs', D, by rw [hD]; rfl, h5, hD, hR, hwt i _ (List.getElem?_eq_getElem (by omega)) _ ?_⟩
      rw [hps]
      exact act_weighs h7
    refine ⟨l, us, ?_, fun i hi => ⟨(hl3 i hi).2.1, (hl3 i hi).2.2⟩⟩
    rw [hl1]
    exact row_gather (by decide) hl2 (by omega) (by omega) fun i hi => (hl3 i (by omega)).1
/-- The i-th one's cells. -/
theorem ActsAt.at {W : World} {v : Value} {es : List AcE} (h : ActsAt W v es) {i : Nat} (hi : i < es.length) : ∃ b off cap, v = .slice (some ⟨b, off, none⟩) es.length cap ∧ b < W.heap.size ∧ ∀ j u, (acL (es[i]'hi))[j]? = some u → W.cell? ⟨b, off + i * 9 + j, none⟩ = some u := by
  obtain ⟨us, ⟨hlen, _, ao, cap, rfl, hc, hr⟩, h2⟩ := h
  rcases hr with ⟨h0, _⟩ | ⟨b, off, rfl, hb, hcell⟩
  · omega
  · refine ⟨b, off, cap, rfl, hb, fun j u hu => ?_⟩
    have hj : j < 9 := (List.getElem?_eq_some_iff.1 hu).1
    have h3 : us[i * 9 + j]? = some u := by
      rw [← (h2 i hi).1, List.getElem?_take, if_pos hj, List.getElem?_drop] at hu
      exact hu
    have := hcell (i * 9 + j) u h3
    rwa [← Nat.add_assoc] at this
end Go.Proofs.Ytioidaojnbenbaa
