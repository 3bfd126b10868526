/- Names: what Symbol answers. No walk here. -/
import Derived.Test.YtioidaojnbenbaaStMem
namespace Go.Proofs.Ytioidaojnbenbaa
open Go.RowKit

def St.intern (s : St) (t : ByteArray) : St := { s with ns := s.ns ++ [t] }
theorem infoStr : (Try.prog.info? 9).map (fun i => (i.zero, i.size, i.bytes)) = some (some (.string ⟨#[]⟩), 1, 16) := by kernel_rfl
theorem srow1 (w : World) (t : ByteArray) : RowV (w.alloc (.cells #[.string t] 9)) (.slice (some ⟨w.heap.size, 0, none⟩) 1 1) 1 1 [.string t] := by
  refine ⟨rfl, by unfold maxLen; simp, some ⟨w.heap.size, 0, none⟩, 1, rfl, Nat.le_refl _, .inr ⟨w.heap.size, 0, rfl, by simp, fun j u hu => ?_⟩⟩
  rw [cell_of_row _ w.heap.size (0 + j) _ _ (0, 0) (heap_alloc_new w _), Nat.zero_add]
  simpa using hu
/-- What Symbol answers, and what is there then. -/
def SymR (s : St) (t : ByteArray) (r : (Int × Int) × Int) (s' : St) : Prop :=
  ((t.size = 0 ∨ 64 < t.size) ∧ r = ((0, 0), 1) ∧ s' = s) ∨ ((1 ≤ t.size ∧ t.size ≤ 64) ∧ ∃ j, ∃ hj : j < s'.ns.length, r = ((6, ((j : Nat) : Int)), 0) ∧ s'.ns[j]'hj = t ∧ (s' = s ∨ s' = s.intern t))
theorem intern_new {s : St} {t : ByteArray} (h : (s.intern t).ns.Nodup) : t ∉ s.ns := fun hm => by
  have h2 : (s.ns ++ [t]).Nodup := h
  rw [List.nodup_append] at h2
  exact h2.2.2 t hm t (by simp) rfl
/-- There is but one answer. -/
theorem SymR.one {s s1 s2 : St} {t : ByteArray} {r r2 : (Int × Int) × Int} (h : SymR s t r s1) (h2 : SymR s t r2 s2) (o1 : s1.ns.Nodup) (o2 : s2.ns.Nodup) : r = r2 ∧ s1 = s2 := by
  have at1 : ∀ {a : List ByteArray} {i j : Nat} (hi : i < a.length) (hj : j < a.length), a.Nodup → a[i]'hi = t → a[j]'hj = t → i = j := fun hi hj hn e1 e2 => (List.getElem_inj hn).1 (e1.trans e2.symm)
  rcases h with ⟨hb, rfl, rfl⟩ | ⟨hg, j, hj, rfl, e, hs⟩
  · rcases h2 with ⟨_, rfl, rfl⟩ | ⟨hg, _⟩
    · exact ⟨rfl, rfl⟩
    · omega
  · rcases h2 with ⟨hb, _⟩ | ⟨_, j2, hj2, rfl, e2, hs2⟩
    · omega
    · have hss : s1 = s2 := by
        rcases hs with hs | hs
        · rcases hs2 with hs2 | hs2
          · rw [hs, hs2]
          · subst hs
            rw [hs2] at o2
            exact absurd (e ▸ List.getElem_mem hj) (intern_new o2)
        · rcases hs2 with hs2 | hs2
          · subst hs2
            rw [hs] at o1
            exact absurd (e2 ▸ List.getElem_mem hj2) (intern_new o1)
          · rw [hs, hs2]
      subst hss
      obtain rfl := at1 hj hj2 o1 e e2
      exact ⟨rfl, rfl⟩
end Go.Proofs.Ytioidaojnbenbaa
