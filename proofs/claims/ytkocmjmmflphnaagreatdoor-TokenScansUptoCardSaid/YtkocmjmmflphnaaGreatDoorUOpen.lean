/- Bytes, and ints, that came in, opened. | What the bound on all arguments together says of one slice. | What the bound on all arguments together says of one string. | Ints that came in, opened. -/
import Derived.Test.YtkocmjmmflphnaaGreatDoorULaid
import Derived.SizedLaws
import Derived.Test.YtkocmjmmflphnaaGreatDoorRows
import Derived.Test.YtkocmjmmflphnaaGreatDoorUEncMath
namespace Go.Proofs.YtkocmjmmflphnaaGreatDoor
open Go.ChangeShapes Go.WideShapes Go.ChangeAt Go.RowKit

theorem bytesU8 : Tryz.prog.bytesOf 5 = 1 := by kernel_rfl
theorem bytesInt : Tryz.prog.bytesOf 3 = 8 := by kernel_rfl
theorem nat_list {zs : List Int} {len : Nat} (hl : len ≤ zs.length) (hp : ∀ n ∈ zs, 0 ≤ n) : ((zs.take len).map Int.toNat).length = len ∧ ∀ j, j < len → ((limb ((zs.take len).map Int.toNat) j : Nat) : Int) = zs.getD j 0 := by
  refine ⟨by simp; omega, fun j hj => ?_⟩
  have := hp zs[j] (List.getElem_mem _)
  unfold limb
  simp only [List.getD_eq_getElem?_getD, List.getElem?_map, List.getElem?_take, if_pos hj]
  rw [List.getElem?_eq_getElem (by omega)]
  simp
  omega

set_option maxRecDepth 100000 in
theorem open_bytes {H : Type} {enc : TypeId × Value → H} {W : World} {base : Nat} {v : Value} {d : DataW H} {p : List MemPlace} (hv : Value.okWide Tryz.prog W .any base 36 v)
    (h : DataW.Trod enc Tryz.prog W 0 (fun _ => true) true 36 v d p) :
    ∃ xs, Sl .u8 W v xs ∧ By xs ∧ (xs = [] ∨ ∃ el sp, d = .slice el sp ∧ el.length = xs.length) := by
  obtain ⟨a0, l0, c0, rfl⟩ := okWide_slice Tryz.underlying36 hv
  obtain ⟨m, hm⟩ := h
  rcases open_ints Tryz.underlying36 Tryz.underlying5 cellsU8 hm with ⟨e1, _⟩ | ⟨a, len, cap, zs, e1, _, hl, hcm, hz, hx, hcell, hwz⟩
  · simp only [Value.cells, List.cons.injEq, and_true] at e1
    rw [e1]
    exact ⟨[], Sl.nil' _ _, fun i => by rw [limb_out (by simp)]; omega, .inl rfl⟩
  · simp only [Value.cells, List.cons.injEq, and_true] at e1
    rw [e1]
    simp only [if_true] at hz
    have hp : ∀ n ∈ zs, 0 ≤ n ∧ n < 256 := fun n hn => by
      have := hwz n hn
      simp [Lit.wf, IntKind.min, IntKind.max, IntKind.signed, IntKind.bits] at this
      omega
    obtain ⟨hlen, hlimb⟩ := nat_list (zs := zs) (len := len) (by omega) fun n hn => (hp n hn).1
    refine ⟨(zs.take len).map Int.toNat, ?_, fun j => ?_, .inr ⟨_, _, (Prod.mk.inj hx).1, ?_⟩⟩
    · refine ⟨by rw [hlen]; omega, some a, cap, by rw [hlen], by rw [hlen]; exact hl, ?_⟩
      by_cases h0 : len = 0
      · subst h0
        exact .inl ⟨by simp, fun h => by cases h⟩
      · obtain ⟨b, off, rfl, hc⟩ := ints_at hcell (by omega)
        refine .inr ⟨b, off, rfl, World.block_lt_of_cell? W _ (hc 0 (by omega)), fun j hj => ?_⟩
        rw [hlen] at hj
        rw [hc j (by omega), hlimb j hj]
    · by_cases hj : j < len
      · have h1 := hlimb j hj
        have h2 := (hp zs[j] (List.getElem_mem _)).2
        have e : zs.getD j 0 = zs[j] := by simp [List.getElem?_eq_getElem (show j < zs.length by omega)]
        rw [e] at h1
        omega
      · rw [limb_out (by omega)]; omega
    · rw [hlen]; simp [lits]; omega

theorem reach_bytes {H : Type} {ts : List TypeId} {ds : List (DataW H)} (hsz : (DataW.weightsEach Tryz.prog ts ds).all (· ≤ reachBytes) = true) {j : Nat} {xs : List Nat} {d : DataW H} (ht : ts[j]? = some 36) (hd : ds[j]? = some d)
    (h : xs = [] ∨ ∃ el sp, d = .slice el sp ∧ el.length = xs.length) : xs.length ≤ 140737488351232 := by
  rcases h with rfl | ⟨el, sp, rfl, hl⟩
  · simp
  · have := sized_slice hsz ht hd Tryz.underlying36
    rw [bytesU8] at this
    have e : reachBytes = 140737488351232 := rfl
    omega
end Go.Proofs.YtkocmjmmflphnaaGreatDoor
namespace Go.Proofs.YtkocmjmmflphnaaGreatDoor
open Go

theorem bulk_pos {H : Type} (d : DataW H) : 1 ≤ Rows.uptoBulk d := by
  rcases d with l | _ | _ | ⟨_, _⟩ | _ | ⟨_, _⟩ | _ | _
  · cases l <;> simp [Rows.uptoBulk]
  all_goals simp [Rows.uptoBulk]
theorem bulk_len {H : Type} : ∀ l : List (DataW H), l.length ≤ Rows.uptoBulkAll l
  | [] => by simp
  | d :: l => by
    have h1 := bulk_len l
    have h2 := bulk_pos d
    simp only [List.length_cons, Rows.uptoBulkAll]
    omega
theorem bulk_mem {H : Type} {d : DataW H} : ∀ {l : List (DataW H)}, d ∈ l → Rows.uptoBulk d ≤ Rows.uptoBulkAll l
  | [], h => by cases h
  | x :: l, h => by
    simp only [Rows.uptoBulkAll]
    rcases List.mem_cons.1 h with rfl | h
    · omega
    · have := bulk_mem h
      omega
theorem bulk_bytes {H : Type} {l : List (DataW H)} (hk : Rows.uptoSmall H l = true) {d : DataW H} (hd : d ∈ l) {xs : List Nat} (h : xs = [] ∨ ∃ el sp, d = .slice el sp ∧ el.length = xs.length) : xs.length ≤ 1048576 := by
  have hb : Rows.uptoBulkAll l ≤ 1048576 := by
    unfold Rows.uptoSmall at hk
    exact of_decide_eq_true hk
  rcases h with rfl | ⟨el, sp, rfl, hl⟩
  · simp
  · have h1 := bulk_mem hd
    have h2 := bulk_len el
    simp only [Rows.uptoBulk] at h1
    omega
end Go.Proofs.YtkocmjmmflphnaaGreatDoor
namespace Go.Proofs.YtkocmjmmflphnaaGreatDoor
open Go

theorem bulk_string {H : Type} {l : List (DataW H)} (hk : Rows.uptoSmall H l = true) {s : ByteArray} (hd : DataW.lit (.string s.data.toList) ∈ l) : s.size ≤ 1048576 := by
  have hb : Rows.uptoBulkAll l ≤ 1048576 := by
    unfold Rows.uptoSmall at hk
    exact of_decide_eq_true hk
  have h1 := bulk_mem hd
  have h2 : s.data.toList.length = s.size := by simp
  simp only [Rows.uptoBulk] at h1
  omega
end Go.Proofs.YtkocmjmmflphnaaGreatDoor
namespace Go.Proofs.YtkocmjmmflphnaaGreatDoor
open Go.ChangeShapes Go.WideShapes Go.ChangeAt Go.RowKit

set_option maxRecDepth 100000 in
theorem open_intsl {H : Type} {enc : TypeId × Value → H} {W : World} {base : Nat} {v : Value} {d : DataW H} {p : List MemPlace} (hv : Value.okWide Tryz.prog W .any base 22 v)
    (h : DataW.Trod enc Tryz.prog W 0 (fun _ => true) true 22 v d p) : ∃ zs, SlV W v (intCells zs) := by
  obtain ⟨a0, l0, c0, rfl⟩ := okWide_slice Tryz.underlying22 hv
  obtain ⟨m, hm⟩ := h
  rcases open_ints Tryz.underlying22 Tryz.underlying3 cellsI hm with ⟨e1, _⟩ | ⟨a, len, cap, zs, e1, _, hl, hcm, hz, hx, hcell, hwz⟩
  · simp only [Value.cells, List.cons.injEq, and_true] at e1
    rw [e1]
    exact ⟨[], by simp [intCells], none, 0, rfl, by simp [intCells], .inl ⟨rfl, fun _ => rfl⟩⟩
  · simp only [Value.cells, List.cons.injEq, and_true] at e1
    rw [e1]
    simp only [if_true] at hz
    have hlen : (intCells (zs.take len)).length = len := by rw [intCells_len]; simp; omega
    refine ⟨zs.take len, by rw [hlen]; omega, some a, cap, by rw [hlen], by rw [hlen]; exact hl, ?_⟩
    by_cases h0 : len = 0
    · subst h0
      exact .inl ⟨by simp [intCells], fun h => by cases h⟩
    · obtain ⟨b, off, rfl, hc⟩ := ints_at hcell (by omega)
      refine .inr ⟨b, off, rfl, World.block_lt_of_cell? W _ (hc 0 (by omega)), fun j u hu => ?_⟩
      have hj : j < len := by rw [← hlen]; exact (List.getElem?_eq_some_iff.1 hu).1
      rw [hc j (by omega), ← hu]
      simp [intCells, hj, show j < zs.length by omega]

set_option maxRecDepth 100000 in
theorem open_intsn {H : Type} {enc : TypeId × Value → H} {W : World} {base : Nat} {v : Value} {d : DataW H} {p : List MemPlace} (hv : Value.okWide Tryz.prog W .any base 22 v)
    (h : DataW.Trod enc Tryz.prog W 0 (fun _ => true) true 22 v d p) : ∃ zs, SlV W v (intCells zs) ∧ (zs = [] ∨ ∃ el sp, d = .slice el sp ∧ el.length = zs.length) := by
  obtain ⟨a0, l0, c0, rfl⟩ := okWide_slice Tryz.underlying22 hv
  obtain ⟨m, hm⟩ := h
  rcases open_ints Tryz.underlying22 Tryz.underlying3 cellsI hm with ⟨e1, _⟩ | ⟨a, len, cap, zs, e1, _, hl, hcm, hz, hx, hcell, hwz⟩
  · simp only [Value.cells, List.cons.injEq, and_true] at e1
    rw [e1]
    exact ⟨[], ⟨by simp [intCells], none, 0, rfl, by simp [intCells], .inl ⟨rfl, fun _ => rfl⟩⟩, .inl rfl⟩
  · simp only [Value.cells, List.cons.injEq, and_true] at e1
    rw [e1]
    simp only [if_true] at hz
    have hlen : (intCells (zs.take len)).length = len := by rw [intCells_len]; simp; omega
    refine ⟨zs.take len, ⟨by rw [hlen]; omega, some a, cap, by rw [hlen], by rw [hlen]; exact hl, ?_⟩, .inr ⟨_, _, (Prod.mk.inj hx).1, ?_⟩⟩
    · by_cases h0 : len = 0
      · subst h0
        exact .inl ⟨by simp [intCells], fun h => by cases h⟩
      · obtain ⟨b, off, rfl, hc⟩ := ints_at hcell (by omega)
        refine .inr ⟨b, off, rfl, World.block_lt_of_cell? W _ (hc 0 (by omega)), fun j u hu => ?_⟩
        have hj : j < len := by rw [← hlen]; exact (List.getElem?_eq_some_iff.1 hu).1
        rw [hc j (by omega), ← hu]
        simp [intCells, hj, show j < zs.length by omega]
    · simp [lits]
theorem bulk_ints {H : Type} {l : List (DataW H)} (hk : Rows.uptoSmall H l = true) {d : DataW H} (hd : d ∈ l) {xs : List Int} (h : xs = [] ∨ ∃ el sp, d = .slice el sp ∧ el.length = xs.length) : xs.length ≤ 1048576 := by
  rcases h with rfl | ⟨el, sp, hs, hl⟩
  · simp
  · have := bulk_bytes hk hd (xs := List.replicate el.length 0) (.inr ⟨el, sp, hs, by simp⟩)
    simp at this
    omega
end Go.Proofs.YtkocmjmmflphnaaGreatDoor
