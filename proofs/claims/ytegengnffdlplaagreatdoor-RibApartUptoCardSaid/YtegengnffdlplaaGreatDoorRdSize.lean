/- ref.trim | ref.Digits | ref.Make | ref.Parse | answers of the law of token; ref.Same of leaves | The statements' own chars: a text's characters. | ref.digit, ref.Atom | TokenAtoms, walked | ref.bare, ref.size, ref.Sound | read.Sound. | ref.size and ref.Sound of any datum. | slices.Equal of limbs, slices.EqualFunc of datums, read.Same | ref.Sound. -/
import Derived.Test.YtegengnffdlplaaGreatDoorLook
import Derived.Test.YtegengnffdlplaaGreatDoorAdd
import Derived.Test.YtegengnffdlplaaGreatDoorAnsU
import Derived.Test.YtegengnffdlplaaGreatDoorApp
import Derived.Test.YtegengnffdlplaaGreatDoorRdLight
import Derived.Test.YtegengnffdlplaaGreatDoorRdMath
import Derived.Test.YtegengnffdlplaaGreatDoorTkLit
import Derived.Test.YtegengnffdlplaaGreatDoorTkAtom
import Derived.Test.YtegengnffdlplaaGreatDoorRdLeaf
import Derived.Test.YtegengnffdlplaaGreatDoorUEncMath
import Derived.Deep.QuietTactic
import Derived.BigQuiet
namespace Go.Proofs.YtegengnffdlplaaGreatDoor
open Go.RowKit

end Go.Proofs.YtegengnffdlplaaGreatDoor
namespace Go.Proofs.YtegengnffdlplaaGreatDoor
open Go.RowKit

end Go.Proofs.YtegengnffdlplaaGreatDoor
namespace Go.Proofs.YtegengnffdlplaaGreatDoor
open Go.RowKit

end Go.Proofs.YtegengnffdlplaaGreatDoor
namespace Go.Proofs.YtegengnffdlplaaGreatDoor
open Go.RowKit

end Go.Proofs.YtegengnffdlplaaGreatDoor
namespace Go.Proofs.YtegengnffdlplaaGreatDoor
open Go.RowKit

theorem bt_mk {bs : List Nat} (hby : By bs) (j : Nat) : bt (mkB bs) j = limb bs j := by rw [← bt_byt, byt_mk hby]
/-- A symbol's text is that symbol. -/
theorem atmA_symb {bs : List Nat} (hby : By bs) (h : symA bs = true) : atmA bs = some ⟨4, bs, false, []⟩ := by
  have hs := h
  unfold symA at hs
  simp only [Bool.and_eq_true, decide_eq_true_iff, Bool.not_eq_true'] at hs
  obtain ⟨⟨⟨⟨h1, _, _, h4⟩, h5⟩, _⟩, _⟩ := hs
  have hp : (parA (mkB bs)).2.2 = false := by
    cases hp : (parA (mkB bs)).2.2 with
    | false => rfl
    | true =>
      exfalso
      obtain ⟨k1, k2⟩ := parA_ok hp
      rw [mkB_size] at k1 k2
      unfold numeA at h5
      simp only [Bool.or_eq_false_iff, Bool.and_eq_false_iff] at h5
      unfold fromA at k1 k2
      rw [mkB_size] at k1 k2
      split at k1
      · rename_i hc
        rw [if_pos hc] at k2
        have d1 := k2 1 (by omega) k1
        rw [bt_mk hby] at d1
        have hsg := hc.2
        rw [bt_mk hby] at hsg
        rcases h5.2 with h6 | h6
        · unfold sgnN at h6; simp at h6; omega
        · unfold digN at h6; simp at h6; omega
      · rename_i hc
        rw [if_neg hc] at k2
        have d0 := k2 0 (by omega) k1
        rw [bt_mk hby] at d0
        have h6 := h5.1
        unfold digN at h6; simp at h6; omega
  have n1 : ¬ (bs = tTrue ∨ bs = tTrue') := by rintro (rfl | rfl) <;> exact h4 rfl
  have n2 : ¬ (bs = tFalse ∨ bs = tFalse') := by rintro (rfl | rfl) <;> exact h4 rfl
  unfold atmA
  rw [if_neg n1, if_neg n2, hp, if_neg (by simp), if_pos h]

end Go.Proofs.YtegengnffdlplaaGreatDoor
namespace Go.Proofs.YtegengnffdlplaaGreatDoor
open Go.RowKit

end Go.Proofs.YtegengnffdlplaaGreatDoor
namespace Go.Proofs.YtegengnffdlplaaGreatDoor
open Go.RowKit

end Go.Proofs.YtegengnffdlplaaGreatDoor
namespace Go.Proofs.YtegengnffdlplaaGreatDoor
open Go.RowKit

end Go.Proofs.YtegengnffdlplaaGreatDoor
namespace Go.Proofs.YtegengnffdlplaaGreatDoor
open Go.RowKit

set_option maxRecDepth 100000 in
set_option maxHeartbeats 1000000 in
/-- read.Sound. -/
theorem dsound_any (D : Dm) (us : List Value) (w : World) (h1 : Lay w D us) (hsm : Sm 1100000 D) (ht : Tabs w) :
    Calls Tryz.prog 58 #[.agg us.toArray] w fun e w' => e = .returned (.bool (sndD D)) ∧ Below w.heap.size w w' := by
  have HLY := Lib.hid h1
  have HSM := Lib.hid hsm
  have HT := Lib.hid ht
  obtain ⟨k, t, n, r, l, a⟩ := D
  obtain ⟨lv, av, xs, rfl, _, _, _, hr, hrow1, _⟩ := h1.open'
  simp only [Dm.r, Dm.l] at hr hrow1
  simp only [Dm.k, Dm.t, Dm.n, Dm.a] at HLY
  simp only [Dm.k, Dm.t, Dm.n, Dm.a]
  obtain ⟨ao, cv0, rfl⟩ : ∃ o c, av = .slice o l.length c := by obtain ⟨_, _, o, c, h, _⟩ := hrow1; exact ⟨o, c, h⟩
  obtain ⟨lo0, lc0, rfl⟩ : ∃ o c, lv = .slice o r.length c := by obtain ⟨_, o, c, h, _⟩ := hr; exact ⟨o, c, h⟩
  clear h1 hr hrow1 hsm ht
  have hb2 := below2 w (.cells #[.int .i64 k, .string (mkB t), .bool n, .slice lo0 r.length lc0, .slice ao l.length cv0, .int .i64 a] 77) (.cells #[.int .i64 0] 117)
  have HB2 := Lib.hid hb2
  have hck : CkB ((w.alloc (.cells #[.int .i64 k, .string (mkB t), .bool n, .slice lo0 r.length lc0, .slice ao l.length cv0, .int .i64 a] 77)).alloc (.cells #[.int .i64 0] 117)) (w.heap.size + 1) 0 := by
    have := heap_alloc_new (w.alloc (.cells #[.int .i64 k, .string (mkB t), .bool n, .slice lo0 r.length lc0, .slice ao l.length cv0, .int .i64 a] 77)) (.cells #[.int .i64 0] 117)
    simpa [CkB] using this
  have HCK := Lib.hid hck
  clear hb2 hck
  show Calls Tryz.prog 58 #[.agg #[.int .i64 k, .string (mkB t), .bool n, .slice lo0 r.length lc0, .slice ao l.length cv0, .int .i64 a]] w _
  go_enter Tryz.func58, Tryz.ntmps58
  go_wp2_with fail
  have hly2 := (HLY.out.layP.move (Keeps.of_below HB2.out)).mono (Q := fun b => b ≠ w.heap.size + 1) fun b _ hb => by omega
  refine (snd_any w (w.heap.size + 1) _ _ (Nat.le_refl _) HSM.out 64 (Nat.le_refl _) _ _ 0 1 rfl hly2 HCK.out (by omega) ⟨HT.out, HB2.out, by omega⟩).mono ?_
  rintro e w3 ⟨b, c', rfl, hk, _, _, hyes, hno⟩
  have HB3 := Lib.hid (HB2.out.trans (hk.bel.mono (by omega)))
  have HV : Hid (sndD (.mk k t n r l a) = b) := Lib.hid (by
    unfold sndD
    cases b with
    | true =>
      obtain ⟨h1, h2, h3⟩ := hyes rfl
      rw [h1]
      simp
      omega
    | false =>
      rcases hno rfl with h | h
      · rw [h]; rfl
      · rw [Bool.and_eq_false_iff]
        right
        simp
        omega)
  clear hk hyes hno hly2
  go_wp2_with fail
  go_ret
  exact ⟨ret_bl (by rw [HV.out]), HB3.out⟩

/-- What ref.size answers: how many, or too many. -/
noncomputable def sizA (f room : Nat) (D : Dm) : Nat := if okD f D = true ∧ D.sz ≤ room then D.sz else 100000
theorem sizA_yes {f room : Nat} {D : Dm} (h : okD f D = true) (h2 : D.sz ≤ room) : sizA f room D = D.sz := if_pos ⟨h, h2⟩
theorem sizA_no {f room : Nat} {D : Dm} (h : okD f D = false ∨ room < D.sz) : sizA f room D = 100000 := by
  unfold sizA
  refine if_neg fun ⟨h1, h2⟩ => ?_
  rcases h with h | h
  · rw [h] at h1; cases h1
  · omega
end Go.Proofs.YtegengnffdlplaaGreatDoor
namespace Go.Proofs.YtegengnffdlplaaGreatDoor
open Go.RowKit

def RsPost (f room : Nat) (D : Dm) (w : World) (e : Ending) (w' : World) : Prop := e = .returned (.int .i64 ((sizA f room D : Nat) : Int)) ∧ Below w.heap.size w w'
theorem RsPost.bad {f room : Nat} {D : Dm} {w w' : World} (h : okD f D = false ∨ room < D.sz) (hb : Below w.heap.size w w') : RsPost f room D w (.returned (.int .i64 100000)) w' := ⟨by rw [sizA_no h]; rfl, hb⟩
theorem RsPost.ok {f room s : Nat} {D : Dm} {w w' : World} (h : okD f D = true) (h2 : D.sz ≤ room) (hs : s = D.sz) (hb : Below w.heap.size w w') : RsPost f room D w (.returned (.int .i64 ((s : Nat) : Int))) w' := ⟨by rw [sizA_yes h h2, hs], hb⟩
theorem RsPost.one {f room : Nat} {D : Dm} {w w' : World} (h : okD f D = true) (hr : 1 ≤ room) (hs : D.sz = 1) (hb : Below w.heap.size w w') : RsPost f room D w (.returned (.int .i64 1)) w' := ⟨by rw [sizA_yes h (by omega), hs]; rfl, hb⟩
/-- What the walk of a leaf needs. -/
structure Lf (w : World) (k : Int) (t : List Nat) (n : Bool) (lo : Option Addr) (r : List Nat) (lc : Nat) (ao : Option Addr) (l : List Dm) (cv : Nat) (a : Int) (W : World) : Prop where
  bel : Below w.heap.size w W
  box : W.heap[w.heap.size]? = some (.cells #[.int .i64 k, .string (mkB t), .bool n, .slice lo r.length lc, .slice ao l.length cv, .int .i64 a] 77 (0, 0))
theorem Lf.step {w : World} {k : Int} {t : List Nat} {n : Bool} {lo : Option Addr} {r : List Nat} {lc : Nat} {ao : Option Addr} {l : List Dm} {cv : Nat} {a : Int} {W W' : World} (h : Lf w k t n lo r lc ao l cv a W) (hb : Below W.heap.size W W') : Lf w k t n lo r lc ao l cv a W' :=
  ⟨h.bel.trans (hb.mono h.bel.size), (hb.block _ (Array.getElem?_eq_some_iff.1 h.box).1).trans h.box⟩

end Go.Proofs.YtegengnffdlplaaGreatDoor
namespace Go.Proofs.YtegengnffdlplaaGreatDoor
open Go.RowKit

theorem Sl.cap {k : IntKind} {w : World} {ao : Option Addr} {cap : Nat} {xs : List Nat} (h : Sl k w (.slice ao xs.length cap) xs) : xs.length ≤ cap := by
  obtain ⟨_, ao', cap', hv, h, _⟩ := h
  simp only [Value.slice.injEq, true_and] at hv
  obtain ⟨rfl, rfl⟩ := hv
  exact h

def RowsEq (l l' : List Dm) : Prop := l.length = l'.length ∧ ∀ (j : Nat) (h : j < l.length) (h' : j < l'.length), sameA (l[j]'h) (l'[j]'h') = true
def EqfPost (l l' : List Dm) (w : World) (e : Ending) (w' : World) : Prop := ∃ b, e = .returned (.bool b) ∧ Below w.heap.size w w' ∧ (b = true → RowsEq l l') ∧ (b = false → ¬ RowsEq l l')
theorem EqfPost.no {l l' : List Dm} {w w' : World} (hb : Below w.heap.size w w') (h : ¬ RowsEq l l') : EqfPost l l' w (.returned (.bool false)) w' := ⟨false, rfl, hb, fun h => (by cases h), fun _ => h⟩
theorem EqfPost.yes {l l' : List Dm} {w w' : World} (hb : Below w.heap.size w w') (h : RowsEq l l') : EqfPost l l' w (.returned (.bool true)) w' := ⟨true, rfl, hb, fun _ => h, fun h => (by cases h)⟩

end Go.Proofs.YtegengnffdlplaaGreatDoor
