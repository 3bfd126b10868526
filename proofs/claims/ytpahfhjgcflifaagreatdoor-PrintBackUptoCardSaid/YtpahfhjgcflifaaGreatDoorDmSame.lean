/- ref.Same of any two datums. -/
import Derived.Test.YtpahfhjgcflifaaGreatDoorDm
import Derived.Test.YtpahfhjgcflifaaGreatDoorTkAtom
import Derived.Test.YtpahfhjgcflifaaGreatDoorTkAns
import Derived.Test.YtpahfhjgcflifaaGreatDoorNumbered
import Derived.StillTailTactics
namespace Go.Proofs.YtpahfhjgcflifaaGreatDoor
open Go.RowKit

/-- A datum without where it stands. -/
def Dm.strip : Dm → Dm
  | .mk k t n r l _ => .mk k t n r (l.attach.map fun ⟨d, _⟩ => Dm.strip d) 0
theorem strip_mk (k : Int) (t : List Nat) (n : Bool) (r : List Nat) (l : List Dm) (a : Int) : (Dm.mk k t n r l a).strip = .mk k t n r (l.map Dm.strip) 0 := by
  unfold Dm.strip
  rw [List.attach_map_val (l := l) (f := Dm.strip)]
open Classical in
/-- The same, wherever they stand? -/
noncomputable def sameA (a b : Dm) : Bool := decide (a.strip = b.strip)
theorem sameA_iff {a b : Dm} : sameA a b = true ↔ a.strip = b.strip := by unfold sameA; simp
theorem sameA_false {a b : Dm} (h : a.strip ≠ b.strip) : sameA a b = false := by unfold sameA; simp [h]
theorem sameA_true {a b : Dm} (h : a.strip = b.strip) : sameA a b = true := sameA_iff.2 h
theorem same_parts {k k' : Int} {t t' : List Nat} {n n' : Bool} {r r' : List Nat} {l l' : List Dm} {a a' : Int} (hk : k = k') (ht : t = t') (hn : n = n' ∧ r = r') (hl : l.length = l'.length) (hall : ∀ (j : Nat) (h : j < l.length) (h' : j < l'.length), sameA (l[j]'h) (l'[j]'h') = true) :
    sameA (.mk k t n r l a) (.mk k' t' n' r' l' a') = true := by
  refine sameA_true ?_
  rw [strip_mk, strip_mk, hk, ht, hn.1, hn.2]
  congr 1
  apply List.ext_getElem (by simp [hl])
  intro j h1 h2
  simp only [List.length_map] at h1 h2
  rw [List.getElem_map, List.getElem_map]
  exact sameA_iff.1 (hall j h1 h2)
theorem not_parts {k k' : Int} {t t' : List Nat} {n n' : Bool} {r r' : List Nat} {l l' : List Dm} {a a' : Int} (h : ¬ (k = k' ∧ t = t' ∧ (n = n' ∧ r = r') ∧ l.length = l'.length ∧ ∀ (j : Nat) (h : j < l.length) (h' : j < l'.length), sameA (l[j]'h) (l'[j]'h') = true)) :
    sameA (.mk k t n r l a) (.mk k' t' n' r' l' a') = false := by
  refine sameA_false fun e => h ?_
  rw [strip_mk, strip_mk] at e
  injection e with e1 e2 e3 e4 e5 _
  have hl : l.length = l'.length := by have := congrArg List.length e5; simpa using this
  refine ⟨e1, e2, ⟨e3, e4⟩, hl, fun j h1 h2 => sameA_true ?_⟩
  have := congrArg (fun x => x[j]?) e5
  simp only [List.getElem?_map, List.getElem?_eq_getElem h1, List.getElem?_eq_getElem h2, Option.map_some] at this
  exact Option.some.inj this
theorem mkB_inj {t t' : List Nat} (h : By t) (h' : By t') (e : mkB t = mkB t') : t = t' := by rw [← byt_mk h, ← byt_mk h', e]
theorem str_ne' {t t' : List Nat} (h : By t) (h' : By t') (hne : t ≠ t') : ((mkB t).toList != (mkB t').toList) = true := by
  rw [bne_iff_ne]
  intro e
  refine hne (mkB_inj h h' ?_)
  have e1 : (mkB t).toList = (mkB t).data.toList := Lib.toList_data _
  have e2 : (mkB t').toList = (mkB t').data.toList := Lib.toList_data _
  rw [e1, e2] at e
  apply ByteArray.ext
  exact Array.ext' e
/-- The i-th of a row of datums. -/
theorem row_datum {w : World} {av : Value} {l : List Dm} {us : List Value} (hrow : RowV w av l.length 6 us) (hin : ∀ (i : Nat) (h : i < l.length), Lay w (l[i]'h) ((us.drop (i * 6)).take 6)) {i : Nat} (h : i < l.length) :
    ∃ b off cap v0 v1 v2 v3 v4 v5, av = .slice (some ⟨b, off, none⟩) l.length cap ∧ l.length ≤ cap ∧ b < w.heap.size ∧ Lay w (l[i]'h) [v0, v1, v2, v3, v4, v5] ∧ w.cell? ⟨b, off + i * 6, none⟩ = some v0 ∧ w.cell? ⟨b, off + i * 6 + 1, none⟩ = some v1 ∧ w.cell? ⟨b, off + i * 6 + 2, none⟩ = some v2 ∧
      w.cell? ⟨b, off + i * 6 + 3, none⟩ = some v3 ∧ w.cell? ⟨b, off + i * 6 + 4, none⟩ = some v4 ∧ w.cell? ⟨b, off + i * 6 + 5, none⟩ = some v5 := by
  obtain ⟨h1, _, ao, cap, h3, h4, h5⟩ := hrow
  have hl := hin i h
  have hlen := hl.len
  rcases h5 with ⟨h5, _⟩ | ⟨b, off, h5, h6, h7⟩
  · omega
  · have hg : ∀ j, j < 6 → ((us.drop (i * 6)).take 6)[j]? = us[i * 6 + j]? := fun j hj => by rw [List.getElem?_take, if_pos hj, List.getElem?_drop]
    generalize (us.drop (i * 6)).take 6 = es at *
    match es, hlen with
    | [v0, v1, v2, v3, v4, v5], _ =>
      subst h5
      have hc : ∀ j u, j < 6 → ([v0, v1, v2, v3, v4, v5] : List Value)[j]? = some u → w.cell? ⟨b, off + i * 6 + j, none⟩ = some u := fun j u hj hu => by
        rw [Nat.add_assoc]
        exact h7 _ _ (by rw [← hg j hj]; exact hu)
      exact ⟨b, off, cap, v0, v1, v2, v3, v4, v5, h3, h4, h6, hl, hc 0 _ (by omega) rfl, hc 1 _ (by omega) rfl, hc 2 _ (by omega) rfl, hc 3 _ (by omega) rfl, hc 4 _ (by omega) rfl, hc 5 _ (by omega) rfl⟩

end Go.Proofs.YtpahfhjgcflifaaGreatDoor
