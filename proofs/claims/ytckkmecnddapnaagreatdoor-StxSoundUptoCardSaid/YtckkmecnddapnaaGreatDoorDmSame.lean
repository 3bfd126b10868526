/- ref.Same of any two datums. -/
import Derived.Test.YtckkmecnddapnaaGreatDoorDm
import Derived.Test.YtckkmecnddapnaaGreatDoorTkAtom
import Derived.Test.YtckkmecnddapnaaGreatDoorRdMath
import Derived.Test.YtckkmecnddapnaaGreatDoorTkLit
import Derived.StillTailTactics
namespace Go.Proofs.YtckkmecnddapnaaGreatDoor
open Go.RowKit

/-- A datum without where it stands. -/
def Dm.strip : Dm → Dm
  | .mk k t n r l _ => .mk k t n r (l.attach.map fun ⟨d, _⟩ => Dm.strip d) 0
theorem strip_mk (k : Int) (t : List Nat) (n : Bool) (r : List Nat) (l : List Dm) (a : Int) : (Dm.mk k t n r l a).strip = .mk k t n r (l.map Dm.strip) 0 := by
  unfold Dm.strip
  rw [List.attach_map_val (l := l) (f := Dm.strip)]
open Classical in
/-- The same, wherever they stand? -/
noncomputable def sameA (a b : Dm) : Bool := decide (a.strip = b.strip)
theorem sameA_iff {a b : Dm} : sameA a b = true ↔ a.strip = b.strip := by unfold sameA; simp
theorem sameA_false {a b : Dm} (h : a.strip ≠ b.strip) : sameA a b = false := by unfold sameA; simp [h]
theorem sameA_true {a b : Dm} (h : a.strip = b.strip) : sameA a b = true := sameA_iff.2 h
theorem sameA_refl (a : Dm) : sameA a a = true := sameA_true rfl
theorem same_parts {k k' : Int} {t t' : List Nat} {n n' : Bool} {r r' : List Nat} {l l' : List Dm} {a a' : Int} (hk : k = k') (ht : t = t') (hn : n = n' ∧ r = r') (hl : l.length = l'.length) (hall : ∀ (j : Nat) (h : j < l.length) (h' : j < l'.length), sameA (l[j]'h) (l'[j]'h') = true) :
    sameA (.mk k t n r l a) (.mk k' t' n' r' l' a') = true := by
  refine sameA_true ?_
  rw [strip_mk, strip_mk, hk, ht, hn.1, hn.2]
  congr 1
  apply List.ext_getElem (by simp [hl])
  intro j h1 h2
  simp only [List.length_map] at h1 h2
  rw [List.getElem_map, List.getElem_map]
  exact sameA_iff.1 (hall j h1 h2)
theorem not_parts {k k' : Int} {t t' : List Nat} {n n' : Bool} {r r' : List Nat} {l l' : List Dm} {a a' : Int} (h : ¬ (k = k' ∧ t = t' ∧ (n = n' ∧ r = r') ∧ l.length = l'.length ∧ ∀ (j : Nat) (h : j < l.length) (h' : j < l'.length), sameA (l[j]'h) (l'[j]'h') = true)) :
    sameA (.mk k t n r l a) (.mk k' t' n' r' l' a') = false := by
  refine sameA_false fun e => h ?_
  rw [strip_mk, strip_mk] at e
  injection e with e1 e2 e3 e4 e5 _
  have hl : l.length = l'.length := by have := congrArg List.length e5; simpa using this
  refine ⟨e1, e2, ⟨e3, e4⟩, hl, fun j h1 h2 => sameA_true ?_⟩
  have := congrArg (fun x => x[j]?) e5
  simp only [List.getElem?_map, List.getElem?_eq_getElem h1, List.getElem?_eq_getElem h2, Option.map_some] at this
  exact Option.some.inj this
theorem mkB_inj {t t' : List Nat} (h : By t) (h' : By t') (e : mkB t = mkB t') : t = t' := by rw [← byt_mk h, ← byt_mk h', e]
theorem str_ne' {t t' : List Nat} (h : By t) (h' : By t') (hne : t ≠ t') : ((mkB t).toList != (mkB t').toList) = true := by
  rw [bne_iff_ne]
  intro e
  refine hne (mkB_inj h h' ?_)
  have e1 : (mkB t).toList = (mkB t).data.toList := Lib.toList_data _
  have e2 : (mkB t').toList = (mkB t').data.toList := Lib.toList_data _
  rw [e1, e2] at e
  apply ByteArray.ext
  exact Array.ext' e
set_option maxRecDepth 100000 in
set_option maxHeartbeats 4000000 in
theorem rsame_dm : ∀ (m : Nat) (a b : Dm), a.sz ≤ m → ∀ (us vs : List Value) (w : World), Lay w a us → Lay w b vs → Calls Tryz.prog 17 #[.agg us.toArray, .agg vs.toArray] w fun e w' => e = .returned (.bool (sameA a b)) ∧ Below w.heap.size w w' := by
  intro m
  induction m with
  | zero => intro a b h; have := Dm.sz_eq a; omega
  | succ m ih =>
    intro A B hsz us vs w h1 h2
    have HIH := Lib.hid ih
    clear ih
    obtain ⟨k, t, n, r, l, a⟩ := A
    obtain ⟨k', t', n', r', l', a'⟩ := B
    have HSZ : Hid (∀ (j : Nat) (h : j < l.length), (l[j]'h).sz ≤ m) := Lib.hid fun j h => by
      have := Dm.sz_mem (d := .mk k t n r l a) (x := l[j]) (List.getElem_mem h)
      omega
    obtain ⟨lv, av, xs, rfl, hb1, hlt1, _, hr1, hrow1, hin1⟩ := h1.open'
    obtain ⟨lv', av', ys, rfl, hb2, hlt2, _, hr2, hrow2, hin2⟩ := h2.open'
    simp only [Dm.t, Dm.r, Dm.l] at hb1 hlt1 hr1 hrow1 hin1 hb2 hlt2 hr2 hrow2 hin2
    show Calls Tryz.prog 17 #[.agg #[.int .i64 k, .string (mkB t), .bool n, lv, av, .int .i64 a], .agg #[.int .i64 k', .string (mkB t'), .bool n', lv', av', .int .i64 a']] w _
    have HB1 := Lib.hid hb1
    have HB2 := Lib.hid hb2
    have HR1 := Lib.hid hr1
    have HR2 := Lib.hid hr2
    have HI1 := Lib.hid hin1
    have HI2 := Lib.hid hin2
    have HW1 := Lib.hid hrow1
    have HW2 := Lib.hid hrow2
    obtain ⟨av0, cv0, rfl⟩ : ∃ o c, av = .slice o l.length c := by obtain ⟨_, _, o, c, h, _⟩ := hrow1; exact ⟨o, c, h⟩
    obtain ⟨av1, cv1, rfl⟩ : ∃ o c, av' = .slice o l'.length c := by obtain ⟨_, _, o, c, h, _⟩ := hrow2; exact ⟨o, c, h⟩
    obtain ⟨lo0, lc0, rfl⟩ : ∃ o c, lv = .slice o r.length c := by obtain ⟨_, o, c, h, _⟩ := hr1; exact ⟨o, c, h⟩
    obtain ⟨lo1, lc1, rfl⟩ : ∃ o c, lv' = .slice o r'.length c := by obtain ⟨_, o, c, h, _⟩ := hr2; exact ⟨o, c, h⟩
    clear h1 h2 hb1 hb2 hr1 hr2 hrow1 hrow2 hin1 hin2 hlt1 hlt2 hsz
    have hbb := below2 w (.cells #[.int .i64 k, .string (mkB t), .bool n, .slice lo0 r.length lc0, .slice av0 l.length cv0, .int .i64 a] 33) (.cells #[.int .i64 k', .string (mkB t'), .bool n', .slice lo1 r'.length lc1, .slice av1 l'.length cv1, .int .i64 a'] 33)
    have HBB := Lib.hid hbb
    have r0 : ((w.alloc (.cells #[.int .i64 k, .string (mkB t), .bool n, .slice lo0 r.length lc0, .slice av0 l.length cv0, .int .i64 a] 33)).alloc (.cells #[.int .i64 k', .string (mkB t'), .bool n', .slice lo1 r'.length lc1, .slice av1 l'.length cv1, .int .i64 a'] 33)).heap[w.heap.size]? = some (.cells #[.int .i64 k, .string (mkB t), .bool n, .slice lo0 r.length lc0, .slice av0 l.length cv0, .int .i64 a] 33 (0, 0)) := by
      rw [Below.heap_alloc _ _ _ (by simp)]; exact heap_alloc_new w _
    have r1 : ((w.alloc (.cells #[.int .i64 k, .string (mkB t), .bool n, .slice lo0 r.length lc0, .slice av0 l.length cv0, .int .i64 a] 33)).alloc (.cells #[.int .i64 k', .string (mkB t'), .bool n', .slice lo1 r'.length lc1, .slice av1 l'.length cv1, .int .i64 a'] 33)).heap[w.heap.size + 1]? = some (.cells #[.int .i64 k', .string (mkB t'), .bool n', .slice lo1 r'.length lc1, .slice av1 l'.length cv1, .int .i64 a'] 33 (0, 0)) := by
      have := heap_alloc_new (w.alloc (.cells #[.int .i64 k, .string (mkB t), .bool n, .slice lo0 r.length lc0, .slice av0 l.length cv0, .int .i64 a] 33)) (.cells #[.int .i64 k', .string (mkB t'), .bool n', .slice lo1 r'.length lc1, .slice av1 l'.length cv1, .int .i64 a'] 33)
      simpa using this
    have HQ0 := Lib.hid r0
    have HQ1 := Lib.hid r1
    clear hbb r0 r1
    have hmx : l.length ≤ 9223372036854775807 := by have := HW1.out.2.1; unfold maxLen at this; omega
    have HMX := Lib.hid hmx
    clear hmx
    by_cases hk : k = k'
    case neg =>
      have HNO := Lib.hid (not_parts (k := k) (k' := k') (t := t) (t' := t') (n := n) (n' := n') (r := r) (r' := r') (l := l) (l' := l') (a := a) (a' := a') fun h => hk h.1)
      have hK : (k != k') = true := by rw [bne_iff_ne]; exact hk
      obtain ⟨a0, a1, a2, a3, a4, a5⟩ := row6 HQ0.out
      obtain ⟨b0, b1, b2, b3, b4, b5⟩ := row6 HQ1.out
      clear hk
      go_enter Tryz.func17, Tryz.ntmps17
      go_wp2_with fail
      go_ret
      exact ⟨by rw [HNO.out]; rfl, HBB.out⟩
    subst hk
    have hK : (k != k) = false := by simp
    by_cases ht : t = t'
    case neg =>
      have HNO := Lib.hid (not_parts (k := k) (k' := k) (t := t) (t' := t') (n := n) (n' := n') (r := r) (r' := r') (l := l) (l' := l') (a := a) (a' := a') fun h => ht h.2.1)
      have hT0 := str_ne' HB1.out HB2.out ht
      have hT : ((mkB t).toList == (mkB t').toList) = false := by rw [beq_eq_false_iff_ne]; exact bne_iff_ne.1 hT0
      obtain ⟨a0, a1, a2, a3, a4, a5⟩ := row6 HQ0.out
      obtain ⟨b0, b1, b2, b3, b4, b5⟩ := row6 HQ1.out
      clear ht
      go_enter Tryz.func17, Tryz.ntmps17
      go_wp2_with fail
      go_ret
      exact ⟨by rw [HNO.out]; rfl, HBB.out⟩
    subst ht
    have hT : ((mkB t).toList != (mkB t).toList) = false := by simp
    obtain ⟨a0, a1, a2, a3, a4, a5⟩ := row6 HQ0.out
    obtain ⟨b0, b1, b2, b3, b4, b5⟩ := row6 HQ1.out
    go_enter Tryz.func17, Tryz.ntmps17
    go_wp2_with fail
    refine (same_any n n' _ _ r r' _ (HR1.out.below HBB.out) (HR2.out.below HBB.out)).mono ?_
    rintro e w1 ⟨rfl, hb⟩
    have HX0 := Lib.hid ((hb.block w.heap.size (by simp; omega)).trans HQ0.out)
    have HX1 := Lib.hid ((hb.block (w.heap.size + 1) (by simp)).trans HQ1.out)
    have HBF := Lib.hid (HBB.out.trans (hb.mono HBB.out.size))
    have hlt1 : w.heap.size + 1 < w1.heap.size := (Array.getElem?_eq_some_iff.1 HX1.out).1
    clear hb a0 a1 a2 a3 a4 a5 b0 b1 b2 b3 b4 b5 hT hK
    by_cases hn : n = n' ∧ r = r'
    case neg =>
      have HNO := Lib.hid (not_parts (k := k) (k' := k) (t := t) (t' := t) (n := n) (n' := n') (r := r) (r' := r') (l := l) (l' := l') (a := a) (a' := a') fun h => hn h.2.2.1)
      rw [sameB_false hn]
      clear hn
      go_wp2_with fail
      go_ret
      exact ⟨by rw [HNO.out]; rfl, HBF.out⟩
    rw [sameB_true hn]
    have HN := Lib.hid hn
    clear hn
    obtain ⟨a0, a1, a2, a3, a4, a5⟩ := row6 HX0.out
    obtain ⟨b0, b1, b2, b3, b4, b5⟩ := row6 HX1.out
    by_cases hl : l.length = l'.length
    case neg =>
      have HNO := Lib.hid (not_parts (k := k) (k' := k) (t := t) (t' := t) (n := n) (n' := n') (r := r) (r' := r') (l := l) (l' := l') (a := a) (a' := a') fun h => hl h.2.2.2.1)
      have hL : (((l.length : Nat) : Int) != ((l'.length : Nat) : Int)) = true := by rw [bne_iff_ne]; omega
      clear hl
      go_wp2_with fail
      go_ret
      exact ⟨by rw [HNO.out]; rfl, HBF.out⟩
    have hL : (((l.length : Nat) : Int) != ((l.length : Nat) : Int)) = false := by simp
    rw [← hl] at HX1 b4
    have HL := Lib.hid hl
    clear hl
    go_wp2_with fail
    clear a0 a1 a2 a3 a4 a5 b0 b1 b2 b3 b4 b5 hL
    go_loopw [5] (fun v wr => ∃ i : Nat, i ≤ l.length ∧ v = .int .i64 (i : Nat) ∧ (∀ (j : Nat) (h : j < l.length) (h' : j < l'.length), j < i → sameA (l[j]'h) (l'[j]'h') = true) ∧ Below w1.heap.size w1 wr) (fun v _ => l.length - (intOf v).toNat)
    case atStart => exact ⟨0, Nat.zero_le _, rfl, fun j _ _ h => by omega, Below.refl _ _⟩
    case round =>
      obtain ⟨i, hi, rfl, hall, hbel⟩ := hrel
      have hmx := HMX.out
      have HALL := Lib.hid hall
      have HBL := Lib.hid hbel
      have HBR := Lib.hid (HBF.out.trans (hbel.mono HBF.out.size))
      have g0 := (row6 ((hbel.block w.heap.size (by omega)).trans HX0.out)).2.2.2.2.1
      have g1 := (row6 ((hbel.block (w.heap.size + 1) hlt1).trans HX1.out)).2.2.2.2.1
      clear hall hbel
      by_cases hin : i < l.length
      · have hii : ((i : Nat) : Int) < ((l.length : Nat) : Int) := by omega
        have hii' : ((i : Nat) : Int) < ((l'.length : Nat) : Int) := by have := HL.out; omega
        obtain ⟨b, off, cap, v0, v1, v2, v3, v4, v5, hav, _, _, hly, p0, p1, p2, p3, p4, p5⟩ := row_datum (HW1.out.below HBR.out) (fun j h => (HI1.out j h).keep HBR.out) hin
        obtain ⟨b', off', cap', u0, u1, u2, u3, u4, u5, hav', _, _, hly', q0, q1, q2, q3, q4, q5⟩ := row_datum (HW2.out.below HBR.out) (fun j h => (HI2.out j h).keep HBR.out) (i := i) (by have := HL.out; omega)
        rw [← HL.out] at hav'
        simp only [Value.slice.injEq, true_and] at hav hav'
        obtain ⟨rfl, rfl⟩ := hav
        obtain ⟨rfl, rfl⟩ := hav'
        have HY1 := Lib.hid (hly.keep (Below.refl wr.heap.size wr).drew)
        have HY2 := Lib.hid (hly'.keep (Below.refl wr.heap.size wr).drew)
        have HBd := Lib.hid HBL.out.drew
        obtain ⟨_, _, _, e1, _⟩ := hly.open'
        obtain ⟨_, _, _, e2, _⟩ := hly'.open'
        clear hly hly' e1 e2
        go_wp2_with fail
        go_still_tail 10, (by kernel_rfl)
        change wpList _ _ _ _ _ wr.drew
        clear p0 p1 p2 p3 p4 p5 q0 q1 q2 q3 q4 q5 g0 g1
        generalize wr.drew = W2 at *
        go_wp2_with fail
        refine (HIH.out (l[i]'hin) (l'[i]'(by have := HL.out; omega)) (HSZ.out i hin) [v0, v1, v2, v3, v4, v5] [u0, u1, u2, u3, u4, u5] _ HY1.out HY2.out).mono ?_
        rintro e w3 ⟨rfl, hb3⟩
        have HB3 := Lib.hid (HBd.out.trans (hb3.mono HBd.out.size))
        clear hb3
        cases hs : sameA (l[i]'hin) (l'[i]'(by have := HL.out; omega)) with
        | false =>
          have HNO := Lib.hid (not_parts (k := k) (k' := k) (t := t) (t' := t) (n := n) (n' := n') (r := r) (r' := r') (l := l) (l' := l') (a := a) (a' := a') fun h => by
            have := h.2.2.2.2 i hin (by have := HL.out; omega)
            rw [hs] at this
            cases this)
          clear hs
          go_wp2_with fail
          go_ret
          exact ⟨by rw [HNO.out]; rfl, HBF.out.trans (HB3.out.mono HBF.out.size)⟩
        | true =>
          have HS := Lib.hid hs
          clear hs
          go_wp2_with fail
          go_roundw
          case measure => simp only [intOf]; omega
          case rel =>
            refine ⟨i + 1, by omega, by go_num, fun j h h' hj => ?_, HB3.out⟩
            rcases Nat.lt_or_eq_of_le (Nat.le_of_lt_succ hj) with h2 | h2
            · exact HALL.out j h h' h2
            · subst h2; exact HS.out
      · obtain rfl : i = l.length := by omega
        have HYES := Lib.hid (same_parts (k := k) (t := t) (a := a) (a' := a') rfl rfl HN.out HL.out fun j h h' => HALL.out j h h' h)
        go_wp2_with fail
        go_ret
        exact ⟨by rw [HYES.out]; rfl, HBR.out⟩
end Go.Proofs.YtckkmecnddapnaaGreatDoor
