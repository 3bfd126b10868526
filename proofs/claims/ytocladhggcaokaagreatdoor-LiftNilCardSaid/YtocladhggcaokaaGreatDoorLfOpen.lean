/- A datum, and a value, that came in for lift: how long limbs may be, which ints there are. No walk here. -/
import Derived.Test.YtocladhggcaokaaGreatDoorUOpen
import Derived.Test.YtocladhggcaokaaGreatDoorLfLight
import Derived.Test.YtocladhggcaokaaGreatDoorStMath
import Derived.SizedLaws
namespace Go.Proofs.YtocladhggcaokaaGreatDoor
open Go.ChangeShapes Go.WideShapes Go.ChangeAt Go.RowKit

theorem weights_mem_all8 {H : Type} {P : Program} {e : TypeId} : ∀ {ds : List (DataW H)} {j : Nat} {d : DataW H}, ds[j]? = some d → ∀ n ∈ d.weights P e, n ∈ DataW.weightsAll P e ds
  | [], _, _, h, _, _ => by simp at h
  | d0 :: ds, 0, d, h, n, hn => by
    simp only [List.getElem?_cons_zero, Option.some.injEq] at h
    subst h
    rw [DataW.weightsAll, List.mem_append]
    exact .inl hn
  | d0 :: ds, j + 1, d, h, n, hn => by
    simp only [List.getElem?_cons_succ] at h
    rw [DataW.weightsAll, List.mem_append]
    exact .inr (weights_mem_all8 h n hn)
set_option maxRecDepth 100000 in
theorem bytesU32 : Tryz.prog.bytesOf 124 = 4 := by kernel_rfl
set_option maxRecDepth 100000 in
theorem limbs_reach {H : Type} {enc : TypeId × Value → H} {W : World} {n : Nat} {v : Value} {x : DataW H × List MemPlace} {r : List Nat} (h : DataW.trod enc Tryz.prog W 0 (fun _ => true) true n 22 [v] = some x) (hr : Sl .u32 W v r) (hw : ∀ n ∈ x.1.weights Tryz.prog 22, n ≤ reachBytes) : r.length ≤ 35184372087808 := by
  obtain ⟨_, ao, cap, rfl, _, _⟩ := hr
  rcases DataW.trod_slice Tryz.underlying22 h with ⟨e3, _⟩ | ⟨ad, len, cap2, elems, rest, n3, hn3, e3, hx3, _, hlc, hcm, hel, hea, _, _⟩
  · simp only [List.cons.injEq, and_true, Value.slice.injEq] at e3
    omega
  · simp only [List.cons.injEq, and_true, Value.slice.injEq] at e3
    have h1 := hw ((elems.length + rest.length) * 4) (by
      rw [hx3, DataW.weights, Tryz.underlying22]
      simp only [List.length_map, bytesU32, List.mem_cons, true_or])
    have e1 : r.length = len := e3.2.1
    unfold reachBytes at h1
    omega
set_option maxRecDepth 100000 in
theorem trod_datumR {H : Type} {enc : TypeId × Value → H} {W : World} : ∀ (m fuel : Nat), fuel ≤ m → ∀ (cs : List Value) (x : DataW H × List MemPlace), DataW.trod enc Tryz.prog W 0 (fun _ => true) true fuel 27 cs = some x → (∀ n ∈ x.1.weights Tryz.prog 27, n ≤ reachBytes) → ∃ D : Dm, Lay W D cs ∧ Lr8 D := by
  intro m
  induction m with
  | zero =>
    intro fuel hf cs x h _
    have : fuel = 0 := by omega
    subst this
    simp [DataW.trod] at h
  | succ m ih =>
    intro fuel hf cs x h hwt
    obtain ⟨xs, n, hn, hx, hl, hlen, hfl⟩ := DataW.trod_struct Tryz.underlying27 h
    rw [cellsDm] at hl
    obtain ⟨c0, c1, c2, c3, c4, c5, rfl⟩ := list6 hl
    obtain ⟨y0, y1, y2, y3, y4, rfl⟩ : ∃ y0 y1 y2 y3 y4, xs = [y0, y1, y2, y3, y4] := by
      match xs, hlen with
      | [y0, y1, y2, y3, y4], _ => exact ⟨y0, y1, y2, y3, y4, rfl⟩
    have hw : ∀ (j : Nat) (ty : TypeId) (y : DataW H × List MemPlace), [3, 9, 24, 25, 3][j]? = some ty → [y0, y1, y2, y3, y4][j]? = some y → ∀ n ∈ y.1.weights Tryz.prog ty, n ≤ reachBytes := by
      intro j ty y ht hy n hn
      refine hwt n ?_
      rw [hx]
      rw [DataW.weights, Tryz.underlying27]
      exact DataW.weights_mem_each (j := j) ht (by rw [List.getElem?_map, hy]; rfl) n hn
    have h0 := hfl 0 _ rfl
    have h1 := hfl 1 _ rfl
    have h2 := hfl 2 _ rfl
    have h3 := hfl 3 _ rfl
    have h4 := hfl 4 _ rfl
    simp [cellsI] at h0
    simp [cellsSt] at h1
    simp [cellsNm] at h2
    simp [cellsDl] at h3
    simp [cellsI] at h4
    obtain ⟨k, e0, _, _⟩ := DataW.trod_int Tryz.underlying3 h0
    obtain ⟨s, e1, _, hsz⟩ := DataW.trod_string Tryz.underlying9 h1
    obtain ⟨a, e4, _, _⟩ := DataW.trod_int Tryz.underlying3 h4
    simp only [List.cons.injEq, and_true] at e0 e1 e4
    subst e0
    subst e1
    subst e4
    obtain ⟨z0, z1, n2, hx2, _, g0, g1⟩ := trod_struct2 Tryz.underlying24 h2
    simp only [cellsBo, cellsLi, List.drop_zero, List.drop_succ_cons, List.take_succ_cons, List.take_zero] at g0 g1
    obtain ⟨ng, e2, _⟩ := DataW.trod_bool Tryz.underlying4 g0
    simp only [List.cons.injEq, and_true] at e2
    subst e2
    obtain ⟨r, hr, hlim, _⟩ := trod_limbs g1
    have hrl : r.length ≤ 35184372087808 := limbs_reach g1 hr fun n hn => by
      refine hw 2 _ _ rfl rfl n ?_
      rw [hx2, DataW.weights, Tryz.underlying24]
      exact DataW.weights_mem_each (j := 1) rfl rfl n hn
    have hb : By (byt s) := byt_by s
    have hbl : (byt s).length ≤ maxLen := by rw [byt_len]; exact hsz
    rw [show (Value.string s) = .string (mkB (byt s)) by rw [byt_mkB]]
    rcases DataW.trod_slice Tryz.underlying25 h3 with ⟨e3, _⟩ | ⟨ad, len, cap, elems, rest, n3, hn3, e3, hx3, _, hlc, hcm, hel, hea, _, _⟩
    · simp only [List.cons.injEq, and_true] at e3
      subst e3
      exact ⟨.mk k (byt s) ng r [] a, .mk (us := []) hb hbl hlim hr ⟨rfl, by simp, none, 0, rfl, by simp, .inl ⟨rfl, fun _ => rfl⟩⟩ fun i hi => by simp at hi, .mk hrl fun i hi => by simp at hi⟩
    · simp only [List.cons.injEq, and_true] at e3
      subst e3
      have each : ∀ i, i < len → ∃ cs', W.cells? 0 (ad.add (i * 6)) 6 = some cs' ∧ ∃ D, Lay W D cs' ∧ Lr8 D := by
        intro i hi
        have hi2 := hea i hi
        rw [cellsDm] at hi2
        rw [List.getElem?_eq_getElem (by omega)] at hi2
        rw [Option.bind_eq_some_iff] at hi2
        obtain ⟨cs', h5, h6⟩ := hi2
        refine ⟨cs', h5, ih n3 (by omega) cs' _ h6 fun n hn => hw 3 _ _ rfl rfl n ?_⟩
        rw [hx3, DataW.weights, Tryz.underlying25]
        simp only [List.mem_cons, List.mem_append]
        exact .inr (.inl (weights_mem_all8 (j := i) (by rw [List.getElem?_map, List.getElem?_eq_getElem (by omega)]; rfl) n hn))
      obtain ⟨l, us, hl1, hl2, hl3⟩ := gather (P := fun i cs' D => W.cells? 0 (ad.add (i * 6)) 6 = some cs' ∧ Lay W D cs' ∧ Lr8 D) len fun i hi => by
        obtain ⟨cs', h5, D, h6, h7⟩ := each i hi
        exact ⟨cs', D, h6.len, h5, h6, h7⟩
      have hrow : RowV W (.slice (some ad) len cap) l.length 6 us := by
        refine ⟨by rw [hl1]; exact hl2, by omega, some ad, cap, by rw [hl1], by omega, ?_⟩
        by_cases h00 : len = 0
        · exact .inl ⟨by omega, fun h => by cases h⟩
        · have hc0 := (World.cells?_some (hl3 0 (by omega)).1).2.2 0 (by omega)
          have hu0 : us[0]?.isSome := by rw [List.getElem?_eq_getElem (by omega)]; rfl
          obtain ⟨b, off, spot⟩ := ad
          have hcs : ((us.drop (0 * 6)).take 6)[0]? = some us[0] := by simp [List.getElem?_eq_getElem (show 0 < us.length by omega)]
          rw [hcs] at hc0
          have hspot : spot = none := by simpa [Addr.add] using World.cell?_spot hc0
          subst hspot
          refine .inr ⟨b, off, rfl, World.block_lt_of_cell? W _ (by rw [Addr.add_mid, Addr.add_mid] at hc0; exact hc0), fun j u hu => ?_⟩
          have hj : j < us.length := (List.getElem?_eq_some_iff.1 hu).1
          have hc := (World.cells?_some (hl3 (j / 6) (by omega)).1).2.2 (j % 6) (by omega)
          rw [Addr.add_mid, Addr.add_mid, List.getElem?_take, if_pos (by omega), List.getElem?_drop, show j / 6 * 6 + j % 6 = j by omega, hu, show off + j / 6 * 6 + j % 6 = off + j by omega] at hc
          exact hc
      exact ⟨.mk k (byt s) ng r l a, .mk hb hbl hlim hr hrow fun i hi => (hl3 i hi).2.1, .mk hrl fun i hi => (hl3 i hi).2.2⟩
set_option maxRecDepth 100000 in
/-- A datum that came in, with how long its limbs may be. -/
theorem open_datumR {H : Type} {enc : TypeId × Value → H} {W : World} {base : Nat} {v : Value} {d : DataW H} {p : List MemPlace} {ts : List TypeId} {ds : List (DataW H)} {j : Nat} (hv : Value.okWide Tryz.prog W .any base 27 v)
    (h : DataW.Trod enc Tryz.prog W 0 (fun _ => true) true 27 v d p) (hsz : (DataW.weightsEach Tryz.prog ts ds).all (· ≤ reachBytes) = true) (ht : ts[j]? = some 27) (hd : ds[j]? = some d) : ∃ (D : Dm) (us : List Value), v = .agg us.toArray ∧ Lay W D us ∧ Lr8 D := by
  obtain ⟨cs, rfl, _⟩ := okWide_struct Tryz.underlying27 hv
  obtain ⟨fuel, hf⟩ := h
  obtain ⟨D, hD, hR⟩ := trod_datumR fuel fuel (Nat.le_refl _) _ _ hf fun n hn => by
    have := List.all_eq_true.1 hsz _ (DataW.weights_mem_each ht hd n hn)
    simpa using this
  exact ⟨D, cs.toList, by simp, hD, hR⟩
set_option maxRecDepth 100000 in
theorem cellsVal8 : Tryz.prog.cellsOf 29 = 2 := by kernel_rfl
set_option maxRecDepth 100000 in
/-- A value that came in. -/
theorem open_valueR {H : Type} {enc : TypeId × Value → H} {W : World} {base : Nat} {v : Value} {d : DataW H} {p : List MemPlace} (hv : Value.okWide Tryz.prog W .any base 29 v)
    (h : DataW.Trod enc Tryz.prog W 0 (fun _ => true) true 29 v d p) : ∃ x : Int × Int, v = .agg #[.int .i64 x.1, .int .i64 x.2] ∧ -9223372036854775808 ≤ x.2 ∧ x.2 ≤ 9223372036854775807 := by
  obtain ⟨cs, rfl, _⟩ := okWide_struct Tryz.underlying29 hv
  obtain ⟨fuel, hf⟩ := h
  obtain ⟨xs, m, hn, _, hl, hlen, hfl⟩ := DataW.trod_struct Tryz.underlying29 hf
  rw [cellsVal8] at hl
  obtain ⟨y0, y1, rfl⟩ : ∃ y0 y1, xs = [y0, y1] := by
    match xs, hlen with
    | [y0, y1], _ => exact ⟨y0, y1, rfl⟩
  obtain ⟨l, rfl⟩ : ∃ l : List Value, cs = l.toArray := ⟨cs.toList, by simp⟩
  obtain ⟨c0, c1, rfl⟩ : ∃ c0 c1, l = [c0, c1] := by
    have hl2 : l.length = 2 := by simpa [Value.cells] using hl
    match l, hl2 with
    | [c0, c1], _ => exact ⟨c0, c1, rfl⟩
  have h0 := hfl 0 _ rfl
  have h1 := hfl 1 _ rfl
  simp [Value.cells, cellsI] at h0
  simp [Value.cells, cellsI] at h1
  obtain ⟨a, e0, _, _⟩ := DataW.trod_int Tryz.underlying3 h0
  obtain ⟨b, e1, _, hwf⟩ := DataW.trod_int Tryz.underlying3 h1
  simp only [List.cons.injEq, and_true] at e0 e1
  refine ⟨(a, b), by rw [e0, e1], ?_⟩
  simp [Lit.wf, IntKind.min, IntKind.max, IntKind.signed, IntKind.bits] at hwf
  omega
end Go.Proofs.YtocladhggcaokaaGreatDoor
