/- ref.trim | ref.Digits | ref.Make | ref.Parse | answers of the law of token; ref.Same of leaves | The statements' own chars: a text's characters. | ref.digit, ref.Atom | TokenAtoms, walked | ref.bare, ref.size, ref.Sound | read.Sound. | ref.size and ref.Sound of any datum. | slices.Equal of limbs, slices.EqualFunc of datums, read.Same | ref.Sound. | stx.strange, may, worn: is an Other in a datum; may a piece have it; the wrap that a piece has. -/
import Derived.Test.YtbfcbicbeagjkaaDoorLook
import Derived.Test.YtbfcbicbeagjkaaDoorAdd
import Derived.Test.YtbfcbicbeagjkaaDoorTkMath
import Derived.Test.YtbfcbicbeagjkaaDoorApp
import Derived.Test.YtbfcbicbeagjkaaDoorRdLight
import Derived.Test.YtbfcbicbeagjkaaDoorRdMath
import Derived.Test.YtbfcbicbeagjkaaDoorTkLit
import Derived.Test.YtbfcbicbeagjkaaDoorTkAtom
import Derived.Test.YtbfcbicbeagjkaaDoorRdLeaf
import Derived.Test.YtbfcbicbeagjkaaDoorUEncMath
import Derived.Test.YtbfcbicbeagjkaaDoorSxPure
import Derived.Deep.QuietTactic
import Derived.BigQuiet
import Derived.Test.YtbfcbicbeagjkaaDoorSxDatum
namespace Go.Proofs.YtbfcbicbeagjkaaDoor
open Go.RowKit

end Go.Proofs.YtbfcbicbeagjkaaDoor
namespace Go.Proofs.YtbfcbicbeagjkaaDoor
open Go.RowKit

end Go.Proofs.YtbfcbicbeagjkaaDoor
namespace Go.Proofs.YtbfcbicbeagjkaaDoor
open Go.RowKit

end Go.Proofs.YtbfcbicbeagjkaaDoor
namespace Go.Proofs.YtbfcbicbeagjkaaDoor
open Go.RowKit

end Go.Proofs.YtbfcbicbeagjkaaDoor
namespace Go.Proofs.YtbfcbicbeagjkaaDoor
open Go.RowKit

theorem bt_mk {bs : List Nat} (hby : By bs) (j : Nat) : bt (mkB bs) j = limb bs j := by rw [← bt_byt, byt_mk hby]
/-- A symbol's text is that symbol. -/
theorem atmA_symb {bs : List Nat} (hby : By bs) (h : symA bs = true) : atmA bs = some ⟨4, bs, false, []⟩ := by
  have hs := h
  unfold symA at hs
  simp only [Bool.and_eq_true, decide_eq_true_iff, Bool.not_eq_true'] at hs
  obtain ⟨⟨⟨⟨h1, _, _, h4⟩, h5⟩, _⟩, _⟩ := hs
  have hp : (parA (mkB bs)).2.2 = false := by
    cases hp : (parA (mkB bs)).2.2 with
    | false => rfl
    | true =>
      exfalso
      obtain ⟨k1, k2⟩ := parA_ok hp
      rw [mkB_size] at k1 k2
      unfold numeA at h5
      simp only [Bool.or_eq_false_iff, Bool.and_eq_false_iff] at h5
      unfold fromA at k1 k2
      rw [mkB_size] at k1 k2
      split at k1
      · rename_i hc
        rw [if_pos hc] at k2
        have d1 := k2 1 (by omega) k1
        rw [bt_mk hby] at d1
        have hsg := hc.2
        rw [bt_mk hby] at hsg
        rcases h5.2 with h6 | h6
        · unfold sgnN at h6; simp at h6; omega
        · unfold digN at h6; simp at h6; omega
      · rename_i hc
        rw [if_neg hc] at k2
        have d0 := k2 0 (by omega) k1
        rw [bt_mk hby] at d0
        have h6 := h5.1
        unfold digN at h6; simp at h6; omega
  have n1 : ¬ (bs = tTrue ∨ bs = tTrue') := by rintro (rfl | rfl) <;> exact h4 rfl
  have n2 : ¬ (bs = tFalse ∨ bs = tFalse') := by rintro (rfl | rfl) <;> exact h4 rfl
  unfold atmA
  rw [if_neg n1, if_neg n2, hp, if_neg (by simp), if_pos h]

end Go.Proofs.YtbfcbicbeagjkaaDoor
namespace Go.Proofs.YtbfcbicbeagjkaaDoor
open Go.RowKit

end Go.Proofs.YtbfcbicbeagjkaaDoor
namespace Go.Proofs.YtbfcbicbeagjkaaDoor
open Go.RowKit

end Go.Proofs.YtbfcbicbeagjkaaDoor
namespace Go.Proofs.YtbfcbicbeagjkaaDoor
open Go.RowKit

end Go.Proofs.YtbfcbicbeagjkaaDoor
namespace Go.Proofs.YtbfcbicbeagjkaaDoor
open Go.RowKit

set_option maxRecDepth 100000 in
set_option maxHeartbeats 1000000 in
/-- read.Sound. -/
theorem dsound_any (D : Dm) (us : List Value) (w : World) (h1 : Lay w D us) (hsm : Sm 1100000 D) (ht : Tabs w) :
    Calls Tryd.prog 46 #[.agg us.toArray] w fun e w' => e = .returned (.bool (sndD D)) ∧ Below w.heap.size w w' := by
  have HLY := Lib.hid h1
  have HSM := Lib.hid hsm
  have HT := Lib.hid ht
  obtain ⟨k, t, n, r, l, a⟩ := D
  obtain ⟨lv, av, xs, rfl, _, _, _, hr, hrow1, _⟩ := h1.open'
  simp only [Dm.r, Dm.l] at hr hrow1
  simp only [Dm.k, Dm.t, Dm.n, Dm.a] at HLY
  simp only [Dm.k, Dm.t, Dm.n, Dm.a]
  obtain ⟨ao, cv0, rfl⟩ : ∃ o c, av = .slice o l.length c := by obtain ⟨_, _, o, c, h, _⟩ := hrow1; exact ⟨o, c, h⟩
  obtain ⟨lo0, lc0, rfl⟩ : ∃ o c, lv = .slice o r.length c := by obtain ⟨_, o, c, h, _⟩ := hr; exact ⟨o, c, h⟩
  clear h1 hr hrow1 hsm ht
  have hb2 := below2 w (.cells #[.int .i64 k, .string (mkB t), .bool n, .slice lo0 r.length lc0, .slice ao l.length cv0, .int .i64 a] 40) (.cells #[.int .i64 0] 75)
  have HB2 := Lib.hid hb2
  have hck : CkB ((w.alloc (.cells #[.int .i64 k, .string (mkB t), .bool n, .slice lo0 r.length lc0, .slice ao l.length cv0, .int .i64 a] 40)).alloc (.cells #[.int .i64 0] 75)) (w.heap.size + 1) 0 := by
    have := heap_alloc_new (w.alloc (.cells #[.int .i64 k, .string (mkB t), .bool n, .slice lo0 r.length lc0, .slice ao l.length cv0, .int .i64 a] 40)) (.cells #[.int .i64 0] 75)
    simpa [CkB] using this
  have HCK := Lib.hid hck
  clear hb2 hck
  show Calls Tryd.prog 46 #[.agg #[.int .i64 k, .string (mkB t), .bool n, .slice lo0 r.length lc0, .slice ao l.length cv0, .int .i64 a]] w _
  go_enter Tryd.func46, Tryd.ntmps46
  go_wp2_with fail
  have hly2 := (HLY.out.layP.move (Keeps.of_below HB2.out)).mono (Q := fun b => b ≠ w.heap.size + 1) fun b _ hb => by omega
  refine (snd_any w (w.heap.size + 1) _ _ (Nat.le_refl _) HSM.out 64 (Nat.le_refl _) _ _ 0 1 rfl hly2 HCK.out (by omega) ⟨HT.out, HB2.out, by omega⟩).mono ?_
  rintro e w3 ⟨b, c', rfl, hk, _, _, hyes, hno⟩
  have HB3 := Lib.hid (HB2.out.trans (hk.bel.mono (by omega)))
  have HV : Hid (sndD (.mk k t n r l a) = b) := Lib.hid (by
    unfold sndD
    cases b with
    | true =>
      obtain ⟨h1, h2, h3⟩ := hyes rfl
      rw [h1]
      simp
      omega
    | false =>
      rcases hno rfl with h | h
      · rw [h]; rfl
      · rw [Bool.and_eq_false_iff]
        right
        simp
        omega)
  clear hk hyes hno hly2
  go_wp2_with fail
  go_ret
  exact ⟨ret_bl (by rw [HV.out]), HB3.out⟩

/-- What ref.size answers: how many, or too many. -/
noncomputable def sizA (f room : Nat) (D : Dm) : Nat := if okD f D = true ∧ D.sz ≤ room then D.sz else 100000
theorem sizA_yes {f room : Nat} {D : Dm} (h : okD f D = true) (h2 : D.sz ≤ room) : sizA f room D = D.sz := if_pos ⟨h, h2⟩
theorem sizA_no {f room : Nat} {D : Dm} (h : okD f D = false ∨ room < D.sz) : sizA f room D = 100000 := by
  unfold sizA
  refine if_neg fun ⟨h1, h2⟩ => ?_
  rcases h with h | h
  · rw [h] at h1; cases h1
  · omega
end Go.Proofs.YtbfcbicbeagjkaaDoor
namespace Go.Proofs.YtbfcbicbeagjkaaDoor
open Go.RowKit

def RsPost (f room : Nat) (D : Dm) (w : World) (e : Ending) (w' : World) : Prop := e = .returned (.int .i64 ((sizA f room D : Nat) : Int)) ∧ Below w.heap.size w w'
theorem RsPost.bad {f room : Nat} {D : Dm} {w w' : World} (h : okD f D = false ∨ room < D.sz) (hb : Below w.heap.size w w') : RsPost f room D w (.returned (.int .i64 100000)) w' := ⟨by rw [sizA_no h]; rfl, hb⟩
theorem RsPost.ok {f room s : Nat} {D : Dm} {w w' : World} (h : okD f D = true) (h2 : D.sz ≤ room) (hs : s = D.sz) (hb : Below w.heap.size w w') : RsPost f room D w (.returned (.int .i64 ((s : Nat) : Int))) w' := ⟨by rw [sizA_yes h h2, hs], hb⟩
theorem RsPost.one {f room : Nat} {D : Dm} {w w' : World} (h : okD f D = true) (hr : 1 ≤ room) (hs : D.sz = 1) (hb : Below w.heap.size w w') : RsPost f room D w (.returned (.int .i64 1)) w' := ⟨by rw [sizA_yes h (by omega), hs]; rfl, hb⟩
/-- What the walk of a leaf needs. -/
structure Lf (w : World) (k : Int) (t : List Nat) (n : Bool) (lo : Option Addr) (r : List Nat) (lc : Nat) (ao : Option Addr) (l : List Dm) (cv : Nat) (a : Int) (W : World) : Prop where
  bel : Below w.heap.size w W
  box : W.heap[w.heap.size]? = some (.cells #[.int .i64 k, .string (mkB t), .bool n, .slice lo r.length lc, .slice ao l.length cv, .int .i64 a] 40 (0, 0))
theorem Lf.step {w : World} {k : Int} {t : List Nat} {n : Bool} {lo : Option Addr} {r : List Nat} {lc : Nat} {ao : Option Addr} {l : List Dm} {cv : Nat} {a : Int} {W W' : World} (h : Lf w k t n lo r lc ao l cv a W) (hb : Below W.heap.size W W') : Lf w k t n lo r lc ao l cv a W' :=
  ⟨h.bel.trans (hb.mono h.bel.size), (hb.block _ (Array.getElem?_eq_some_iff.1 h.box).1).trans h.box⟩

end Go.Proofs.YtbfcbicbeagjkaaDoor
namespace Go.Proofs.YtbfcbicbeagjkaaDoor
open Go.RowKit

theorem Sl.cap {k : IntKind} {w : World} {ao : Option Addr} {cap : Nat} {xs : List Nat} (h : Sl k w (.slice ao xs.length cap) xs) : xs.length ≤ cap := by
  obtain ⟨_, ao', cap', hv, h, _⟩ := h
  simp only [Value.slice.injEq, true_and] at hv
  obtain ⟨rfl, rfl⟩ := hv
  exact h

def RowsEq (l l' : List Dm) : Prop := l.length = l'.length ∧ ∀ (j : Nat) (h : j < l.length) (h' : j < l'.length), sameA (l[j]'h) (l'[j]'h') = true
def EqfPost (l l' : List Dm) (w : World) (e : Ending) (w' : World) : Prop := ∃ b, e = .returned (.bool b) ∧ Below w.heap.size w w' ∧ (b = true → RowsEq l l') ∧ (b = false → ¬ RowsEq l l')
theorem EqfPost.no {l l' : List Dm} {w w' : World} (hb : Below w.heap.size w w') (h : ¬ RowsEq l l') : EqfPost l l' w (.returned (.bool false)) w' := ⟨false, rfl, hb, fun h => (by cases h), fun _ => h⟩
theorem EqfPost.yes {l l' : List Dm} {w w' : World} (hb : Below w.heap.size w w') (h : RowsEq l l') : EqfPost l l' w (.returned (.bool true)) w' := ⟨true, rfl, hb, fun _ => h, fun h => (by cases h)⟩

end Go.Proofs.YtbfcbicbeagjkaaDoor
namespace Go.Proofs.YtbfcbicbeagjkaaDoor
open Go.RowKit

def OthP (D : Dm) : Prop := ∀ (us : List Value) (w : World), Lay w D us → Calls Tryd.prog 47 #[.agg us.toArray] w fun e w' => e = .returned (.bool (othB D)) ∧ Below w.heap.size w w'
set_option maxRecDepth 100000 in
set_option maxHeartbeats 4000000 in
theorem othidx_any (l : List Dm) (HS : ∀ (j : Nat) (h : j < l.length), OthP (l[j]'h)) (av : Value) (us : List Value) (w : World) (hrow : RowV w av l.length 6 us) (hin : ∀ (i : Nat) (h : i < l.length), Lay w (l[i]'h) ((us.drop (i * 6)).take 6)) :
    Calls Tryd.prog 65 #[av, .func (.func 47) #[] #[]] w fun e w' => ∃ z : Int, e = .returned (.int .i64 z) ∧ (z < 0 → ∀ (j : Nat) (h : j < l.length), othB (l[j]'h) = false) ∧ (0 ≤ z → ∃ (j : Nat) (h : j < l.length), othB (l[j]'h) = true) ∧ Below w.heap.size w w' := by
  have HH := Lib.hid HS; clear HS
  have HRW := Lib.hid hrow
  have HIN := Lib.hid hin
  have hmx : l.length ≤ 9223372036854775807 := by have := hrow.2.1; unfold maxLen at this; omega
  have HMX := Lib.hid hmx
  obtain ⟨ao, cap, rfl⟩ : ∃ o c, av = .slice o l.length c := by obtain ⟨_, _, o, c, h, _⟩ := hrow; exact ⟨o, c, h⟩
  clear hrow hin
  go_enter Tryd.func65, Tryd.ntmps65
  go_wp2_with fail
  go_loopw [8] (fun v wr => ∃ (i : Nat), i ≤ l.length ∧ v = .int .i64 (i : Nat) ∧ (∀ (j : Nat) (h : j < l.length), j < i → othB (l[j]'h) = false) ∧ Below w.heap.size w wr) (fun v _ => l.length - (intOf v).toNat)
  case atStart => exact ⟨0, Nat.zero_le _, rfl, fun j _ h => by omega, Below.refl _ _⟩
  case round =>
    obtain ⟨i, hi, rfl, hall, hbl⟩ := hrel
    have hmx := HMX.out
    have HALL := Lib.hid hall
    have HBL := Lib.hid hbl
    clear hall hbl
    by_cases hin : i < l.length
    · have hii : ((i : Nat) : Int) < ((l.length : Nat) : Int) := by omega
      obtain ⟨b, off, cap', v0, v1, v2, v3, v4, v5, hav, _, _, hly, p0, p1, p2, p3, p4, p5⟩ := row_datum (HRW.out.below HBL.out) (fun j h => (HIN.out j h).keep HBL.out) hin
      simp only [Value.slice.injEq, true_and] at hav
      obtain ⟨rfl, rfl⟩ := hav
      have HY := Lib.hid hly
      clear hly
      go_wp2_with fail
      clear p0 p1 p2 p3 p4 p5
      refine (HH.out i hin [v0, v1, v2, v3, v4, v5] _ HY.out).mono ?_
      rintro e w3 ⟨rfl, hb3⟩
      have HB3 := Lib.hid (HBL.out.trans (hb3.mono HBL.out.size))
      clear hb3
      cases hs : othB (l[i]'hin) with
      | true =>
        have HV := Lib.hid hs
        clear hs
        go_wp2_with fail
        go_ret
        exact ⟨i, rfl, fun h => by omega, fun _ => ⟨i, hin, HV.out⟩, HB3.out⟩
      | false =>
        have HV := Lib.hid hs
        clear hs
        go_wp2_with fail
        go_roundw
        case measure => simp only [intOf]; omega
        case rel =>
          refine ⟨i + 1, by omega, by go_num, fun j h hj => ?_, HB3.out⟩
          rcases Nat.lt_or_eq_of_le (Nat.le_of_lt_succ hj) with h2 | h2
          · exact HALL.out j h h2
          · subst h2; exact HV.out
    · obtain rfl : i = l.length := by omega
      go_wp2_with fail
      go_ret
      exact ⟨-1, rfl, fun _ j h => HALL.out j h h, fun h => by omega, HBL.out⟩
set_option maxRecDepth 100000 in
set_option maxHeartbeats 4000000 in
theorem othcon_any (l : List Dm) (HS : ∀ (j : Nat) (h : j < l.length), OthP (l[j]'h)) (av : Value) (us : List Value) (w : World) (hrow : RowV w av l.length 6 us) (hin : ∀ (i : Nat) (h : i < l.length), Lay w (l[i]'h) ((us.drop (i * 6)).take 6)) :
    Calls Tryd.prog 57 #[av, .func (.func 47) #[] #[]] w fun e w' => e = .returned (.bool (l.any othB)) ∧ Below w.heap.size w w' := by
  have HC := Lib.hid (othidx_any l HS av us w hrow hin)
  obtain ⟨ao, cap, rfl⟩ : ∃ o c, av = .slice o l.length c := by obtain ⟨_, _, o, c, h, _⟩ := hrow; exact ⟨o, c, h⟩
  clear HS hrow hin
  go_enter Tryd.func57, Tryd.ntmps57
  go_wp2_with fail
  refine HC.out.mono ?_
  rintro e w3 ⟨z, rfl, hno, hyes, hb3⟩
  have HB3 := Lib.hid hb3
  rcases (by omega : 0 ≤ z ∨ z < 0) with hz | hz
  · have hd : decide ((0 : Int) ≤ z) = true := by simpa using hz
    have HV : Hid (l.any othB = true) := Lib.hid (by
      obtain ⟨j, hj, h⟩ := hyes hz
      rw [List.any_eq_true]
      exact ⟨_, List.getElem_mem hj, h⟩)
    clear hz hno hyes hb3
    go_wp2_with fail
    go_ret
    exact ⟨ret_bl HV.out.symm, HB3.out⟩
  · have hd : decide ((0 : Int) ≤ z) = false := by simp; omega
    have HV : Hid (l.any othB = false) := Lib.hid (by
      rw [List.any_eq_false]
      intro x hx
      obtain ⟨j, hj, rfl⟩ := List.mem_iff_getElem.1 hx
      rw [hno hz j hj]; decide)
    clear hz hno hyes hb3
    go_wp2_with fail
    go_ret
    exact ⟨ret_bl HV.out.symm, HB3.out⟩
set_option maxRecDepth 100000 in
set_option maxHeartbeats 4000000 in
theorem strange_any : ∀ (m : Nat) (D : Dm), D.sz ≤ m → OthP D := by
  intro m
  induction m with
  | zero => intro D h; have := sz_pos D; omega
  | succ m ih =>
    intro D hsz us w h1
    have HIH := Lib.hid ih
    clear ih
    obtain ⟨k, t, n, r, l, a⟩ := D
    have HSZ : Hid (∀ (j : Nat) (h : j < l.length), (l[j]'h).sz ≤ m) := Lib.hid fun j h => by
      have := Dm.sz_mem (d := .mk k t n r l a) (x := l[j]) (List.getElem_mem h)
      omega
    obtain ⟨lv, av, xs, rfl, _, _, _, hr, hrow1, hin1⟩ := h1.open'
    simp only [Dm.k, Dm.t, Dm.n, Dm.r, Dm.l, Dm.a] at hr hrow1 hin1 ⊢
    have HRW := Lib.hid hrow1
    have HIN := Lib.hid hin1
    obtain ⟨ao, cv0, rfl⟩ : ∃ o c, av = .slice o l.length c := by obtain ⟨_, _, o, c, h, _⟩ := hrow1; exact ⟨o, c, h⟩
    obtain ⟨lo0, lc0, rfl⟩ : ∃ o c, lv = .slice o r.length c := by obtain ⟨_, o, c, h, _⟩ := hr; exact ⟨o, c, h⟩
    clear h1 hr hrow1 hin1 hsz
    have HB1 := Lib.hid (below1 w (.cells #[.int .i64 k, .string (mkB t), .bool n, .slice lo0 r.length lc0, .slice ao l.length cv0, .int .i64 a] 40))
    show Calls Tryd.prog 47 #[.agg #[.int .i64 k, .string (mkB t), .bool n, .slice lo0 r.length lc0, .slice ao l.length cv0, .int .i64 a]] w _
    by_cases hk : k = 11
    · subst hk
      go_enter Tryd.func47, Tryd.ntmps47
      go_wp2_with fail
      go_ret
      exact ⟨ret_bl othB_is.symm, HB1.out⟩
    · have hd : (k == 11) = false := by rw [beq_eq_false_iff_ne]; exact hk
      have HK := Lib.hid hk
      clear hk
      go_enter Tryd.func47, Tryd.ntmps47
      go_wp2_with fail
      refine (othcon_any l (fun j h => HIH.out (l[j]'h) (HSZ.out j h)) _ xs _ (HRW.out.below HB1.out) (fun j h => (HIN.out j h).keep HB1.out)).mono ?_
      rintro e w3 ⟨rfl, hb3⟩
      have HB3 := Lib.hid (HB1.out.trans (hb3.mono HB1.out.size))
      have HV : Hid (othB (.mk k t n r l a) = l.any othB) := Lib.hid (by rw [othB_mk, decide_eq_false HK.out, Bool.false_or])
      clear hb3
      go_wp2_with fail
      go_ret
      exact ⟨ret_bl HV.out.symm, HB3.out⟩

set_option maxRecDepth 100000 in
set_option maxHeartbeats 4000000 in
/-- stx.may. -/
theorem may_any (D : Dm) (us : List Value) (w : World) (h1 : Lay w D us) (hsm : Sm 1100000 D) (ht : Tabs w) :
    Calls Tryd.prog 28 #[.agg us.toArray] w fun e w' => e = .returned (.bool (sndD D && !othB D)) ∧ Below w.heap.size w w' := by
  have HLY := Lib.hid h1
  have HSM := Lib.hid hsm
  have HT := Lib.hid ht
  obtain ⟨k, t, n, r, l, a⟩ := D
  obtain ⟨lv, av, xs, rfl, _, _, _, hr, hrow1, _⟩ := h1.open'
  simp only [Dm.k, Dm.t, Dm.n, Dm.r, Dm.l, Dm.a] at hr hrow1 HLY ⊢
  obtain ⟨ao, cv0, rfl⟩ : ∃ o c, av = .slice o l.length c := by obtain ⟨_, _, o, c, h, _⟩ := hrow1; exact ⟨o, c, h⟩
  obtain ⟨lo0, lc0, rfl⟩ : ∃ o c, lv = .slice o r.length c := by obtain ⟨_, o, c, h, _⟩ := hr; exact ⟨o, c, h⟩
  clear h1 hr hrow1 hsm ht
  have HB1 := Lib.hid (below1 w (.cells #[.int .i64 k, .string (mkB t), .bool n, .slice lo0 r.length lc0, .slice ao l.length cv0, .int .i64 a] 40))
  have HX1 := Lib.hid (heap_alloc_new w (.cells #[.int .i64 k, .string (mkB t), .bool n, .slice lo0 r.length lc0, .slice ao l.length cv0, .int .i64 a] 40))
  show Calls Tryd.prog 28 #[.agg #[.int .i64 k, .string (mkB t), .bool n, .slice lo0 r.length lc0, .slice ao l.length cv0, .int .i64 a]] w _
  go_enter Tryd.func28, Tryd.ntmps28
  go_wp2_with fail
  refine (dsound_any (.mk k t n r l a) _ _ (HLY.out.keep HB1.out) HSM.out (HT.out.below HB1.out (Nat.le_refl _))).mono ?_
  rintro e w3 ⟨rfl, hb3⟩
  have HB3 := Lib.hid (HB1.out.trans (hb3.mono HB1.out.size))
  have HX3 := Lib.hid ((hb3.block _ (Array.getElem?_eq_some_iff.1 HX1.out).1).trans HX1.out)
  clear hb3
  cases hs : sndD (.mk k t n r l a) with
  | false =>
    have HS := Lib.hid hs
    clear hs
    go_wp2_with fail
    go_ret
    exact ⟨ret_bl (by rw [HS.out]; rfl), HB3.out⟩
  | true =>
    have HS := Lib.hid hs
    clear hs
    obtain ⟨c0, c1, c2, c3, c4, c5⟩ := row6d HX3.out
    go_wp2_with fail
    refine (strange_any _ _ (Nat.le_refl _) _ _ (HLY.out.keep HB3.out)).mono ?_
    rintro e w4 ⟨rfl, hb4⟩
    have HB4 := Lib.hid (HB3.out.trans (hb4.mono HB3.out.size))
    clear hb4
    go_wp2_with fail
    go_ret
    exact ⟨ret_bl (by rw [HS.out]; rfl), HB4.out⟩
end Go.Proofs.YtbfcbicbeagjkaaDoor
