/- A slice of datums that came in. -/
import Derived.Test.YtpahfhjgcflifaaGreatDoorUOpen
namespace Go.Proofs.YtpahfhjgcflifaaGreatDoor
open Go.ChangeShapes Go.WideShapes Go.ChangeAt Go.RowKit

set_option maxRecDepth 100000 in
theorem open_datums {H : Type} {enc : TypeId × Value → H} {W : World} {base : Nat} {v : Value} {d : DataW H} {p : List MemPlace} (hv : Value.okWide Tryz.prog W .any base 25 v)
    (h : DataW.Trod enc Tryz.prog W 0 (fun _ => true) true 25 v d p) : ∃ (l : List Dm) (us : List Value), RowV W v l.length 6 us ∧ (∀ (i : Nat) (h : i < l.length), Lay W (l[i]'h) ((us.drop (i * 6)).take 6)) ∧ ∀ N, Rows.uptoBulk d ≤ N → l.length ≤ N ∧ ∀ (i : Nat) (h : i < l.length), Sm N (l[i]'h) := by
  obtain ⟨a0, l0, c0, rfl⟩ := okWide_slice Tryz.underlying25 hv
  obtain ⟨fuel, hf⟩ := h
  rcases DataW.trod_slice Tryz.underlying25 hf with ⟨e3, hx3⟩ | ⟨ad, len, cap, elems, rest, n3, hn3, e3, hx3, _, hlc, hcm, hel, hea, _, _⟩
  · simp only [Value.cells, List.cons.injEq, and_true] at e3
    rw [e3]
    exact ⟨[], [], ⟨rfl, by simp, none, 0, rfl, by simp, .inl ⟨rfl, fun _ => rfl⟩⟩, fun i hi => by simp at hi, fun N _ => ⟨by simp, fun i hi => by simp at hi⟩⟩
  · simp only [Value.cells, List.cons.injEq, and_true] at e3
    rw [e3]
    have hd : d = _ := (Prod.mk.inj hx3).1
    have hlb : Rows.uptoBulkAll (elems.map (·.1)) ≤ Rows.uptoBulk d := by
      rw [hd]
      simp only [Rows.uptoBulk]
      omega
    have hll : len ≤ Rows.uptoBulk d := by
      have h5 := bulk_len (elems.map (·.1))
      rw [List.length_map, hel] at h5
      omega
    have each : ∀ i, i < len → ∃ cs', W.cells? 0 (ad.add (i * 6)) 6 = some cs' ∧ ∃ D, Lay W D cs' ∧ ∀ N, Rows.uptoBulk d ≤ N → Sm N D := by
      intro i hi
      have hi2 := hea i hi
      rw [cellsDm] at hi2
      rw [List.getElem?_eq_getElem (by omega)] at hi2
      rw [Option.bind_eq_some_iff] at hi2
      obtain ⟨cs', h5, h6⟩ := hi2
      obtain ⟨D, h7, h8⟩ := trod_datum n3 n3 (Nat.le_refl _) cs' _ h6
      have h9 := bulk_mem (d := (elems[i]'(by omega)).1) (l := elems.map (·.1)) (List.mem_map_of_mem (List.getElem_mem _))
      exact ⟨cs', h5, D, h7, fun N hN => h8 N (by omega)⟩
    obtain ⟨l, us, hl1, hl2, hl3⟩ := gather (P := fun i cs' D => W.cells? 0 (ad.add (i * 6)) 6 = some cs' ∧ Lay W D cs' ∧ ∀ N, Rows.uptoBulk d ≤ N → Sm N D) len fun i hi => by
      obtain ⟨cs', h5, D, h6, h7⟩ := each i hi
      exact ⟨cs', D, h6.len, h5, h6, h7⟩
    refine ⟨l, us, ?_, fun i hi => (hl3 i (by omega)).2.1, fun N hN => ⟨by omega, fun i hi => (hl3 i (by omega)).2.2 N hN⟩⟩
    refine ⟨by rw [hl1]; exact hl2, by omega, some ad, cap, by rw [hl1], by omega, ?_⟩
    by_cases h00 : len = 0
    · exact .inl ⟨by omega, fun h => by cases h⟩
    · have hc0 := (World.cells?_some (hl3 0 (by omega)).1).2.2 0 (by omega)
      obtain ⟨b, off, spot⟩ := ad
      have hcs : ((us.drop (0 * 6)).take 6)[0]? = some us[0] := by simp [List.getElem?_eq_getElem (show 0 < us.length by omega)]
      rw [hcs] at hc0
      have hspot : spot = none := by simpa [Addr.add] using World.cell?_spot hc0
      subst hspot
      refine .inr ⟨b, off, rfl, World.block_lt_of_cell? W _ (by rw [Addr.add_mid, Addr.add_mid] at hc0; exact hc0), fun j u hu => ?_⟩
      have hj : j < us.length := (List.getElem?_eq_some_iff.1 hu).1
      have hc := (World.cells?_some (hl3 (j / 6) (by omega)).1).2.2 (j % 6) (by omega)
      rw [Addr.add_mid, Addr.add_mid, List.getElem?_take, if_pos (by omega), List.getElem?_drop, show j / 6 * 6 + j % 6 = j by omega, hu, show off + j / 6 * 6 + j % 6 = off + j by omega] at hc
      exact hc
end Go.Proofs.YtpahfhjgcflifaaGreatDoor
