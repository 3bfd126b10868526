/- Bytes, and ints, that came in, opened. | What the bound on all arguments together says of one slice. | What the bound on all arguments together says of one string. | Ints that came in, opened. | A datum that came in, opened, with its bulk (instead of XDmOpen). | A piece of syntax that came in, with its bulk, and its marks within an int's range. No walk here. | A wrap that came in. No walk here. -/
import Derived.Test.YtbfcbicbeagjkaaGreatDoorULaid2
import Derived.SizedLaws
import Derived.Test.YtbfcbicbeagjkaaGreatDoorRows
import Derived.Test.YtbfcbicbeagjkaaGreatDoorUEncMath
import Derived.Test.YtbfcbicbeagjkaaGreatDoorDm
import Derived.Deep.MidRow
import Derived.Test.YtbfcbicbeagjkaaGreatDoorSxMath
import Derived.Test.YtbfcbicbeagjkaaGreatDoorSxOpen
import Derived.Test.YtbfcbicbeagjkaaGreatDoorTkSc
namespace Go.Proofs.YtbfcbicbeagjkaaGreatDoor
open Go.ChangeShapes Go.WideShapes Go.ChangeAt Go.RowKit

theorem nat_list {zs : List Int} {len : Nat} (hl : len ≤ zs.length) (hp : ∀ n ∈ zs, 0 ≤ n) : ((zs.take len).map Int.toNat).length = len ∧ ∀ j, j < len → ((limb ((zs.take len).map Int.toNat) j : Nat) : Int) = zs.getD j 0 := by
  refine ⟨by simp; omega, fun j hj => ?_⟩
  have := hp zs[j] (List.getElem_mem _)
  unfold limb
  simp only [List.getD_eq_getElem?_getD, List.getElem?_map, List.getElem?_take, if_pos hj]
  rw [List.getElem?_eq_getElem (by omega)]
  simp
  omega

end Go.Proofs.YtbfcbicbeagjkaaGreatDoor
namespace Go.Proofs.YtbfcbicbeagjkaaGreatDoor
open Go

theorem bulk_pos {H : Type} (d : DataW H) : 1 ≤ Rows.uptoBulk d := by
  rcases d with l | _ | _ | ⟨_, _⟩ | _ | ⟨_, _⟩ | _ | _
  · cases l <;> simp [Rows.uptoBulk]
  all_goals simp [Rows.uptoBulk]
theorem bulk_len {H : Type} : ∀ l : List (DataW H), l.length ≤ Rows.uptoBulkAll l
  | [] => by simp
  | d :: l => by
    have h1 := bulk_len l
    have h2 := bulk_pos d
    simp only [List.length_cons, Rows.uptoBulkAll]
    omega
theorem bulk_mem {H : Type} {d : DataW H} : ∀ {l : List (DataW H)}, d ∈ l → Rows.uptoBulk d ≤ Rows.uptoBulkAll l
  | [], h => by cases h
  | x :: l, h => by
    simp only [Rows.uptoBulkAll]
    rcases List.mem_cons.1 h with rfl | h
    · omega
    · have := bulk_mem h
      omega
end Go.Proofs.YtbfcbicbeagjkaaGreatDoor
namespace Go.Proofs.YtbfcbicbeagjkaaGreatDoor
open Go

end Go.Proofs.YtbfcbicbeagjkaaGreatDoor
namespace Go.Proofs.YtbfcbicbeagjkaaGreatDoor
open Go.ChangeShapes Go.WideShapes Go.ChangeAt Go.RowKit

end Go.Proofs.YtbfcbicbeagjkaaGreatDoor
namespace Go.Proofs.YtbfcbicbeagjkaaGreatDoor
open Go.ChangeShapes Go.WideShapes Go.ChangeAt Go.RowKit

theorem cellsDm : Tryz.prog.cellsOf 27 = 6 := by kernel_rfl
theorem cellsNm : Tryz.prog.cellsOf 24 = 2 := by kernel_rfl
theorem cellsSt : Tryz.prog.cellsOf 9 = 1 := by kernel_rfl
theorem cellsDl : Tryz.prog.cellsOf 25 = 1 := by kernel_rfl
theorem cellsBo : Tryz.prog.cellsOf 4 = 1 := by kernel_rfl
theorem cellsLi : Tryz.prog.cellsOf 22 = 1 := by kernel_rfl
theorem cellsLu : Tryz.prog.cellsOf 140 = 1 := by kernel_rfl
theorem list6 {cs : List Value} (h : cs.length = 6) : ∃ a b c d e f, cs = [a, b, c, d, e, f] := by
  match cs, h with
  | [a, b, c, d, e, f], _ => exact ⟨a, b, c, d, e, f, rfl⟩

theorem gather {P : Nat → List Value → Dm → Prop} : ∀ len, (∀ i, i < len → ∃ cs D, cs.length = 6 ∧ P i cs D) → ∃ (l : List Dm) (us : List Value), l.length = len ∧ us.length = len * 6 ∧ ∀ (i : Nat) (h : i < l.length), P i ((us.drop (i * 6)).take 6) (l[i]'h) := by
  intro len
  induction len with
  | zero => intro _; exact ⟨[], [], rfl, rfl, fun i h => by simp at h⟩
  | succ n ih =>
    intro h
    obtain ⟨l, us, h1, h2, h3⟩ := ih fun i hi => h i (by omega)
    obtain ⟨cs, D, h4, h5⟩ := h n (by omega)
    refine ⟨l ++ [D], us ++ cs, by simp [h1], by rw [List.length_append, h2, h4]; omega, fun i hi => ?_⟩
    simp only [List.length_append, List.length_singleton] at hi
    rcases Nat.lt_or_ge i n with hin | hin
    · have h6 := h3 i (by omega)
      have e1 : ((us ++ cs).drop (i * 6)).take 6 = (us.drop (i * 6)).take 6 := by
        rw [List.drop_append_of_le_length (by omega), List.take_append_of_le_length (by rw [List.length_drop]; omega)]
      have e2 : (l ++ [D])[i] = l[i]'(by omega) := List.getElem_append_left (by omega)
      rw [e1, e2]
      exact h6
    · have : i = n := by omega
      subst this
      have e1 : ((us ++ cs).drop (i * 6)).take 6 = cs := by
        rw [List.drop_append_of_le_length (by omega), List.drop_of_length_le (by omega), List.nil_append, List.take_of_length_le (by omega)]
      have e2 : (l ++ [D])[i]'(by simp; omega) = D := by
        rw [List.getElem_append_right (by omega)]
        simp [h1]
      rw [e1, e2]
      exact h5
set_option maxRecDepth 100000 in
/-- The limbs. -/
theorem trod_limbs {H : Type} {enc : TypeId × Value → H} {W : World} {n : Nat} {v : Value} {x : DataW H × List MemPlace} (h : DataW.trod enc Tryz.prog W 0 (fun _ => true) true n 22 [v] = some x) :
    ∃ xs, Sl .u32 W v xs ∧ (∀ i, limb xs i < 4294967296) ∧ xs.length ≤ Rows.uptoBulk x.1 := by
  have hsl := DataW.trod_slice Tryz.underlying22 h
  rcases open_ints Tryz.underlying22 Tryz.underlying140 cellsLu h with ⟨e1, _⟩ | ⟨a, len, cap, zs, e1, _, hl, hm, hz, _, hcell, hwz⟩
  · simp only [List.cons.injEq, and_true] at e1
    subst e1
    exact ⟨[], Sl.nil _ _, fun i => by rw [limb_out (by simp)]; omega, by simp⟩
  · simp only [List.cons.injEq, and_true] at e1
    subst e1
    simp only [if_true] at hz
    have hp : ∀ n ∈ zs, 0 ≤ n ∧ n < 4294967296 := fun n hn => by
      have := hwz n hn
      simp [Lit.wf, IntKind.min, IntKind.max, IntKind.signed, IntKind.bits] at this
      omega
    obtain ⟨hlen, hlimb⟩ := nat_list (zs := zs) (len := len) (by omega) fun n hn => (hp n hn).1
    have hbk : len ≤ Rows.uptoBulk x.1 := by
      rcases hsl with ⟨e, _⟩ | ⟨a', len', cap', elems, rest, n', _, e, hx, _, _, _, hel, _⟩
      · simp at e
      · simp only [List.cons.injEq, and_true, Value.slice.injEq] at e
        have h1 := bulk_len (elems.map (·.1))
        rw [List.length_map, hel] at h1
        rw [hx]
        simp only [Rows.uptoBulk]
        omega
    refine ⟨(zs.take len).map Int.toNat, ?_, fun j => ?_, by rw [hlen]; exact hbk⟩
    · refine ⟨by rw [hlen]; omega, some a, cap, by rw [hlen], by rw [hlen]; exact hl, ?_⟩
      by_cases h0 : len = 0
      · subst h0
        exact .inl ⟨by simp, fun h => by cases h⟩
      · obtain ⟨b, off, rfl, hc⟩ := ints_at hcell (by omega)
        refine .inr ⟨b, off, rfl, World.block_lt_of_cell? W _ (hc 0 (by omega)), fun j hj => ?_⟩
        rw [hlen] at hj
        rw [hc j (by omega), hlimb j hj]
    · by_cases hj : j < len
      · have h1 := hlimb j hj
        have h2 := (hp zs[j] (List.getElem_mem _)).2
        have e : zs.getD j 0 = zs[j] := by simp [List.getElem?_eq_getElem (show j < zs.length by omega)]
        rw [e] at h1
        omega
      · rw [limb_out (by omega)]; omega

set_option maxRecDepth 100000 in
theorem trod_datum {H : Type} {enc : TypeId × Value → H} {W : World} : ∀ (m fuel : Nat), fuel ≤ m → ∀ (cs : List Value) (x : DataW H × List MemPlace), DataW.trod enc Tryz.prog W 0 (fun _ => true) true fuel 27 cs = some x → ∃ D : Dm, Lay W D cs ∧ ∀ N, Rows.uptoBulk x.1 ≤ N → Sm N D := by
  intro m
  induction m with
  | zero =>
    intro fuel hf cs x h
    have : fuel = 0 := by omega
    subst this
    simp [DataW.trod] at h
  | succ m ih =>
    intro fuel hf cs x h
    obtain ⟨xs, n, hn, hxx, hl, hlen, hfl⟩ := DataW.trod_struct Tryz.underlying27 h
    rw [cellsDm] at hl
    obtain ⟨c0, c1, c2, c3, c4, c5, rfl⟩ := list6 hl
    obtain ⟨y0, y1, y2, y3, y4, rfl⟩ : ∃ y0 y1 y2 y3 y4, xs = [y0, y1, y2, y3, y4] := by
      match xs, hlen with
      | [y0, y1, y2, y3, y4], _ => exact ⟨y0, y1, y2, y3, y4, rfl⟩
    have h0 := hfl 0 _ rfl
    have h1 := hfl 1 _ rfl
    have h2 := hfl 2 _ rfl
    have h3 := hfl 3 _ rfl
    have h4 := hfl 4 _ rfl
    simp [cellsI] at h0
    simp [cellsSt] at h1
    simp [cellsNm] at h2
    simp [cellsDl] at h3
    simp [cellsI] at h4
    obtain ⟨k, e0, _, _⟩ := DataW.trod_int Tryz.underlying3 h0
    obtain ⟨s, e1, hx1, hsz⟩ := DataW.trod_string Tryz.underlying9 h1
    obtain ⟨a, e4, _, _⟩ := DataW.trod_int Tryz.underlying3 h4
    simp only [List.cons.injEq, and_true] at e0 e1 e4
    subst e0
    subst e1
    subst e4
    obtain ⟨z0, z1, n2, hq1, hq2, g0, g1⟩ := trod_struct2 Tryz.underlying24 h2
    simp only [cellsBo, cellsLi, List.drop_zero, List.drop_succ_cons, List.take_succ_cons, List.take_zero] at g0 g1
    obtain ⟨ng, e2, _⟩ := DataW.trod_bool Tryz.underlying4 g0
    simp only [List.cons.injEq, and_true] at e2
    subst e2
    obtain ⟨r, hr, hlim, hrb⟩ := trod_limbs g1
    have hag : Rows.uptoBulkAll [y0.1, y1.1, y2.1, y3.1, y4.1] ≤ Rows.uptoBulk x.1 := by
      rw [hxx]
      simp only [Rows.uptoBulk, List.map_cons, List.map_nil]
      omega
    have hb1 := bulk_mem (d := y1.1) (l := [y0.1, y1.1, y2.1, y3.1, y4.1]) (by simp)
    have hb2 := bulk_mem (d := y2.1) (l := [y0.1, y1.1, y2.1, y3.1, y4.1]) (by simp)
    have hb3 := bulk_mem (d := y3.1) (l := [y0.1, y1.1, y2.1, y3.1, y4.1]) (by simp)
    have hsb : (byt s).length ≤ Rows.uptoBulk x.1 := by
      rw [byt_len]
      have e2 : Rows.uptoBulk y1.1 = Rows.uptoBulk (DataW.lit (.string s.data.toList) : DataW H) := by rw [hx1]
      rw [e2] at hb1
      simp only [Rows.uptoBulk] at hb1
      have e : s.data.toList.length = s.size := Array.length_toList
      omega
    have hrr : r.length ≤ Rows.uptoBulk x.1 := by
      have h5 : Rows.uptoBulk z1.1 ≤ Rows.uptoBulk y2.1 := by
        rw [hq1]
        simp only [Rows.uptoBulk, Rows.uptoBulkAll]
        omega
      omega
    have hb : By (byt s) := byt_by s
    have hbl : (byt s).length ≤ maxLen := by rw [byt_len]; exact hsz
    rw [show (Value.string s) = .string (mkB (byt s)) by rw [byt_mkB]]
    rcases DataW.trod_slice Tryz.underlying25 h3 with ⟨e3, hx3⟩ | ⟨ad, len, cap, elems, rest, n3, hn3, e3, hx3, _, hlc, hcm, hel, hea, _, _⟩
    · simp only [List.cons.injEq, and_true] at e3
      subst e3
      exact ⟨.mk k (byt s) ng r [] a, .mk (us := []) hb hbl hlim hr ⟨rfl, by simp, none, 0, rfl, by simp, .inl ⟨rfl, fun _ => rfl⟩⟩ (fun i hi => by simp at hi), fun N hN => .mk (by omega) (by omega) (by simp) fun i hi => by simp at hi⟩
    · simp only [List.cons.injEq, and_true] at e3
      subst e3
      have hlb : Rows.uptoBulkAll (elems.map (·.1)) ≤ Rows.uptoBulk y3.1 := by
        rw [hx3]
        simp only [Rows.uptoBulk]
        omega
      have hll : len ≤ Rows.uptoBulk x.1 := by
        have h5 := bulk_len (elems.map (·.1))
        rw [List.length_map, hel] at h5
        omega
      have each : ∀ i, i < len → ∃ cs', W.cells? 0 (ad.add (i * 6)) 6 = some cs' ∧ ∃ D, Lay W D cs' ∧ ∀ N, Rows.uptoBulk x.1 ≤ N → Sm N D := by
        intro i hi
        have hi2 := hea i hi
        rw [cellsDm] at hi2
        rw [List.getElem?_eq_getElem (by omega)] at hi2
        rw [Option.bind_eq_some_iff] at hi2
        obtain ⟨cs', h5, h6⟩ := hi2
        obtain ⟨D, h7, h8⟩ := ih n3 (by omega) cs' _ h6
        have h9 := bulk_mem (d := (elems[i]'(by omega)).1) (l := elems.map (·.1)) (List.mem_map_of_mem (List.getElem_mem _))
        exact ⟨cs', h5, D, h7, fun N hN => h8 N (by omega)⟩
      obtain ⟨l, us, hl1, hl2, hl3⟩ := gather (P := fun i cs' D => W.cells? 0 (ad.add (i * 6)) 6 = some cs' ∧ Lay W D cs' ∧ ∀ N, Rows.uptoBulk x.1 ≤ N → Sm N D) len fun i hi => by
        obtain ⟨cs', h5, D, h6, h7⟩ := each i hi
        exact ⟨cs', D, h6.len, h5, h6, h7⟩
      have hrow : RowV W (.slice (some ad) len cap) l.length 6 us := by
        refine ⟨by rw [hl1]; exact hl2, by omega, some ad, cap, by rw [hl1], by omega, ?_⟩
        by_cases h00 : len = 0
        · exact .inl ⟨by omega, fun h => by cases h⟩
        · have hc0 := (World.cells?_some (hl3 0 (by omega)).1).2.2 0 (by omega)
          have hu0 : us[0]?.isSome := by rw [List.getElem?_eq_getElem (by omega)]; rfl
          obtain ⟨b, off, spot⟩ := ad
          have hcs : ((us.drop (0 * 6)).take 6)[0]? = some us[0] := by simp [List.getElem?_eq_getElem (show 0 < us.length by omega)]
          rw [hcs] at hc0
          have hspot : spot = none := by simpa [Addr.add] using World.cell?_spot hc0
          subst hspot
          refine .inr ⟨b, off, rfl, World.block_lt_of_cell? W _ (by rw [Addr.add_mid, Addr.add_mid] at hc0; exact hc0), fun j u hu => ?_⟩
          have hj : j < us.length := (List.getElem?_eq_some_iff.1 hu).1
          have hc := (World.cells?_some (hl3 (j / 6) (by omega)).1).2.2 (j % 6) (by omega)
          rw [Addr.add_mid, Addr.add_mid, List.getElem?_take, if_pos (by omega), List.getElem?_drop, show j / 6 * 6 + j % 6 = j by omega, hu, show off + j / 6 * 6 + j % 6 = off + j by omega] at hc
          exact hc
      exact ⟨.mk k (byt s) ng r l a, .mk hb hbl hlim hr hrow (fun i hi => (hl3 i hi).2.1), fun N hN => .mk (by omega) (by omega) (by omega) fun i hi => (hl3 i hi).2.2 N hN⟩
set_option maxRecDepth 100000 in
/-- A datum that came in. -/
theorem open_datum {H : Type} {enc : TypeId × Value → H} {W : World} {base : Nat} {v : Value} {d : DataW H} {p : List MemPlace} (hv : Value.okWide Tryz.prog W .any base 27 v)
    (h : DataW.Trod enc Tryz.prog W 0 (fun _ => true) true 27 v d p) : ∃ (D : Dm) (us : List Value), v = .agg us.toArray ∧ Lay W D us ∧ ∀ N, Rows.uptoBulk d ≤ N → Sm N D := by
  obtain ⟨cs, rfl, hsz⟩ := okWide_struct Tryz.underlying27 hv
  obtain ⟨fuel, hf⟩ := h
  obtain ⟨D, hD⟩ := trod_datum fuel fuel (Nat.le_refl _) _ _ hf
  exact ⟨D, cs.toList, by simp, hD⟩
theorem bulk_small {H : Type} {l : List (DataW H)} (hk : Rows.uptoSmall H l = true) {d : DataW H} (hd : d ∈ l) : Rows.uptoBulk d ≤ 1048576 := by
  have hb : Rows.uptoBulkAll l ≤ 1048576 := by
    unfold Rows.uptoSmall at hk
    exact of_decide_eq_true hk
  exact Nat.le_trans (bulk_mem hd) hb
end Go.Proofs.YtbfcbicbeagjkaaGreatDoor
namespace Go.Proofs.YtbfcbicbeagjkaaGreatDoor
open Go.ChangeShapes Go.WideShapes Go.ChangeAt Go.RowKit

end Go.Proofs.YtbfcbicbeagjkaaGreatDoor
namespace Go.Proofs.YtbfcbicbeagjkaaGreatDoor
open Go.ChangeShapes Go.WideShapes Go.ChangeAt Go.RowKit

set_option maxRecDepth 100000 in
theorem cellsWr : Tryz.prog.cellsOf 30 = 2 := by kernel_rfl
set_option maxRecDepth 100000 in
theorem cellsIs : Tryz.prog.cellsOf 28 = 1 := by kernel_rfl
set_option maxRecDepth 100000 in
theorem cellsI1 : Tryz.prog.cellsOf 3 = 1 := by kernel_rfl
set_option maxRecDepth 100000 in
theorem trod_iz {H : Type} {enc : TypeId × Value → H} {W : World} {n : Nat} {v : Value} {x : DataW H × List MemPlace} (h : DataW.trod enc Tryz.prog W 0 (fun _ => true) true n 28 [v] = some x) : ∃ zs, Iz W v zs := by
  rcases open_ints Tryz.underlying28 Tryz.underlying3 cellsI1 h with ⟨e1, _⟩ | ⟨a, len, cap, zs, e1, _, hl, hcm, hz, _, hcell, _⟩
  · simp only [List.cons.injEq, and_true] at e1
    subst e1
    exact ⟨[], Iz.nil _⟩
  · simp only [List.cons.injEq, and_true] at e1
    subst e1
    simp only [if_true] at hz
    by_cases h0 : len = 0
    · subst h0
      exact ⟨[], Iz.empty _ _ _⟩
    · obtain ⟨b, off, rfl, hc⟩ := ints_at hcell (by omega)
      refine ⟨zs.take len, Iz.mk (by simp; omega) (by omega) hl (World.block_lt_of_cell? W _ (hc 0 (by omega))) fun j hj => ?_⟩
      rw [hc j (by omega), gz_lt (by simp; omega)]
      simp [show j < zs.length by omega]
set_option maxRecDepth 100000 in
theorem open_wrap {H : Type} {enc : TypeId × Value → H} {W : World} {base : Nat} {v : Value} {d : DataW H} {p : List MemPlace} (hv : Value.okWide Tryz.prog W .any base 30 v)
    (h : DataW.Trod enc Tryz.prog W 0 (fun _ => true) true 30 v d p) : ∃ m s, Wr W v m s := by
  obtain ⟨cs, rfl, hsz⟩ := okWide_struct Tryz.underlying30 hv
  obtain ⟨fuel, hf⟩ := h
  obtain ⟨xs, k, hn, _, hl, hlen, hfl⟩ := DataW.trod_struct Tryz.underlying30 hf
  rw [cellsWr] at hl
  obtain ⟨c0, c1, hcs⟩ : ∃ c0 c1, cs.toList = [c0, c1] := by
    have hl' : cs.toList.length = 2 := hl
    match h : cs.toList, hl' with
    | [c0, c1], _ => exact ⟨c0, c1, rfl⟩
  obtain ⟨y0, y1, rfl⟩ : ∃ y0 y1, xs = [y0, y1] := by
    match xs, hlen with
    | [y0, y1], _ => exact ⟨y0, y1, rfl⟩
  have h0 := hfl 0 _ rfl
  have h1 := hfl 1 _ rfl
  obtain rfl : cs = #[c0, c1] := by apply Array.ext'; simpa using hcs
  simp [cellsIs] at h0
  simp [cellsIs] at h1
  obtain ⟨m, hm⟩ := trod_iz h0
  obtain ⟨s, hs⟩ := trod_iz h1
  exact ⟨m, s, ⟨_, _, rfl, hm, hs⟩⟩
end Go.Proofs.YtbfcbicbeagjkaaGreatDoor
