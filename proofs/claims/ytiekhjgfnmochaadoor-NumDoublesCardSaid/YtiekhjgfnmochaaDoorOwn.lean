/- own: a copy -/
import Derived.Test.YtiekhjgfnmochaaDoorSound
import Derived.Laws.AppendOwnNone
namespace Go.Proofs.YtiekhjgfnmochaaDoor
open Go.RowKit

set_option maxRecDepth 100000 in
set_option maxHeartbeats 1000000 in
theorem own_any (neg : Bool) (sv : Value) (xs : List Nat) (w : World) (hs : Sl .u32 w sv xs) (hl : xs.length < 1000000000) :
    Calls Tryd.prog 15 #[.agg #[.bool neg, sv]] w fun e w' => ∃ v, e = .returned v ∧ IntV w' v neg xs ∧ Below w.heap.size w w' := by
  obtain ⟨i0, hi, hz0, hz1, hz2⟩ := info_parts infoU32
  obtain ⟨hm, ao, cap, rfl, hcap, h⟩ := hs
  unfold maxLen at hm
  have hb3 : Below w.heap.size w (((w.alloc (.cells #[.bool neg, .slice ao xs.length cap] 24)).alloc (.cells #[.bool false, .slice none 0 0] 24)).alloc (.cells #[] 52)) := (((Below.refl _ w).alloc (Nat.le_refl _) _).alloc (by simp) _).alloc (by simp; omega) _
  have hown0 : (((w.alloc (.cells #[.bool neg, .slice ao xs.length cap] 24)).alloc (.cells #[.bool false, .slice none 0 0] 24)).alloc (.cells #[] 52)).ownsRow (w.heap.size + 1 + 1) 52 1 (.slice (some ⟨w.heap.size + 1 + 1, 0, none⟩) 0 0) 0 [] := by
    have := World.ownsRow_made (base := w.heap.size + 1 + 1) (e := 52) (size := 1) ((w.alloc (.cells #[.bool neg, .slice ao xs.length cap] 24)).alloc (.cells #[.bool false, .slice none 0 0] 24)) #[] 0 (by simp) (by simp) (by simp)
    simpa using this
  by_cases hao : ao = none
  · subst hao
    obtain ⟨rfl, hc0⟩ : xs = [] ∧ cap = 0 := by
      rcases h with ⟨h1, h2⟩ | ⟨b, off, h1, _⟩
      · exact ⟨h1, h2 rfl⟩
      · cases h1
    subst hc0
    clear h
    go_enter Tryd.func15, Tryd.ntmps15
    go_wp2_with (at_builtin; refine wpList_append_own_none rfl _ _ 22 rfl (w.heap.size + 1 + 1) 52 i0 1 Tryd.underlying22 hi _ 0 [] rfl hown0 rfl ?_)
    refine bodyPost_ret (v := .agg #[.bool neg, .slice (some ⟨w.heap.size + 1 + 1, 0, none⟩) 0 0]) (by simp [results, Tryd.results15, go_sem]) rfl ?_
    refine ⟨_, rfl, ⟨_, rfl, by simp, _, _, rfl, by simp, .inl ⟨rfl, fun h => by cases h⟩⟩, ?_⟩
    exact below3 _ _ _ _
  · obtain ⟨ad, rfl⟩ : ∃ ad, ao = some ad := by cases ao with | none => exact absurd rfl hao | some a => exact ⟨a, rfl⟩
    have hnews : ∀ j u, (xs.map fun (x : Nat) => Value.int .u32 (x : Int))[j]? = some u → (((w.alloc (.cells #[.bool neg, .slice (some ad) xs.length cap] 24)).alloc (.cells #[.bool false, .slice none 0 0] 24)).alloc (.cells #[] 52)).cell? (ad.add j) = some u := by
      intro j u hu
      have hj : j < xs.length := by simpa using (List.getElem?_eq_some_iff.1 hu).1
      rcases h with ⟨h1, _⟩ | ⟨b, off, h1, hb, hcell⟩
      · rw [h1] at hj; exact absurd hj (by simp)
      · obtain rfl := Option.some.inj h1
        rw [Addr.add_lit, hb3.cell (p := ⟨b, off + j, none⟩) hb, hcell j hj, limb_lt hj]
        simpa [hj] using hu
    have HN := Lib.hid hnews
    have HB3 := Lib.hid hb3
    clear h hnews hb3 hao
    go_enter Tryd.func15, Tryd.ntmps15
    go_wp2_with (at_builtin; refine wpList_append_own _ rfl _ _ 22 rfl (w.heap.size + 1 + 1) 52 i0 (.int .u32 0) 1 4 Tryd.underlying22 hi hz0 hz1 hz2 rfl (by decide) _ 0 [] rfl hown0 ad xs.length cap (xs.map fun (x : Nat) => Value.int .u32 (x : Int)) rfl (by simp) HN.out (by intro u hu; obtain ⟨_, _, rfl⟩ := List.mem_map.1 hu; rfl) (by unfold maxLen; omega) (by omega) (by simp) ?_; intro v' w1 hown1 hgrow hnil; rw [Nat.zero_add, List.nil_append] at hown1; obtain ⟨a', c', rfl⟩ := owns_slice hown1; obtain ⟨f1, f2, f3, f4⟩ := grown_facts3 hgrow; have c10 := cell_heap f1 0; have c11 := cell_heap f1 1; have c20 := cell_heap f2 0; have c21 := cell_heap f2 1; have g10 := frozen_heap f1 0; have g11 := frozen_heap f1 1; have g20 := frozen_heap f2 0; have g21 := frozen_heap f2 1; have HO := Lib.hid hown1; clear hown1 hgrow hnil f1 f2 f3 HN hown0)
    refine bodyPost_ret (v := .agg #[.bool neg, .slice a' xs.length c']) (by simp [results, Tryd.results15, go_sem, c20, c21]) rfl ?_
    refine ⟨_, rfl, ⟨_, rfl, owns_sl (base := w.heap.size + 1 + 1) (n := xs.length) (e := 52) ?_⟩, ?_⟩
    · exact ownsRow_setCell_below (ownsRow_setCell_below (ownsRow_setCell_below HO.out (by simp; omega) _) (by simp) _) (by simp) _
    · exact ((f4.setCell (by simp) _).setCell (by simp) _).setCell (by simp) _
end Go.Proofs.YtiekhjgfnmochaaDoor
