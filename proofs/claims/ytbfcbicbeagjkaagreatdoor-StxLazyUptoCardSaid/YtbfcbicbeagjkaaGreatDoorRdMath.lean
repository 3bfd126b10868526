/- Datums: what they are, and how they lie in memory. No walk here. | Datums whose blocks are known: what stays of them when other blocks change. No walk here. | ref.Sound | ref.Same | Which datums may be. No walk here. | What the reader makes of words. No walk here. -/
import Derived.Test.YtbfcbicbeagjkaaGreatDoorTkMath
import Derived.Test.YtbfcbicbeagjkaaGreatDoorMem
import Derived.Laws.AppendOwn
import Derived.Laws.AppendOwnNone
import Derived.Deep.MidRow
import Derived.Test.YtbfcbicbeagjkaaGreatDoorPlus
import Derived.Deep.QuietTactic
import Derived.BigQuiet
namespace Go.Proofs.YtbfcbicbeagjkaaGreatDoor
open Go.RowKit

/-- A datum: kind, text, number's sign and limbs, what stands in it, where it stands. -/
inductive Dm where
  | mk (k : Int) (t : List Nat) (n : Bool) (r : List Nat) (l : List Dm) (a : Int)
def Dm.k : Dm → Int | .mk k _ _ _ _ _ => k
def Dm.t : Dm → List Nat | .mk _ t _ _ _ _ => t
def Dm.n : Dm → Bool | .mk _ _ n _ _ _ => n
def Dm.r : Dm → List Nat | .mk _ _ _ r _ _ => r
def Dm.l : Dm → List Dm | .mk _ _ _ _ l _ => l
def Dm.a : Dm → Int | .mk _ _ _ _ _ a => a
/-- How many datums it is, and is in it. -/
def Dm.sz : Dm → Nat
  | .mk _ _ _ _ l _ => 1 + (l.attach.map fun ⟨d, _⟩ => Dm.sz d).sum
theorem Dm.sz_eq (d : Dm) : d.sz = 1 + (d.l.map Dm.sz).sum := by
  cases d with
  | mk k t n r l a =>
    unfold Dm.sz
    show _ = 1 + (l.map Dm.sz).sum
    rw [List.attach_map_val (l := l) (f := Dm.sz)]
theorem Dm.sz_mem {d x : Dm} (h : x ∈ d.l) : x.sz < d.sz := by
  rw [Dm.sz_eq d]
  have key : ∀ l : List Dm, x ∈ l → x.sz ≤ (l.map Dm.sz).sum := by
    intro l
    induction l with
    | nil => intro h; cases h
    | cons y l ih =>
      intro h
      rw [List.map_cons, List.sum_cons]
      rcases List.mem_cons.1 h with rfl | h
      · omega
      · have := ih h; omega
  have := key _ h
  omega

/-- The six cells of a datum, and all behind them. -/
inductive Lay (w : World) : Dm → List Value → Prop
  | mk {k : Int} {t : List Nat} {n : Bool} {r : List Nat} {l : List Dm} {a : Int} {lv av : Value} {us : List Value} (hby : By t) (hlt : t.length ≤ maxLen) (hlim : ∀ i, limb r i < 4294967296) (hr : Sl .u32 w lv r) (hrow : RowV w av l.length 6 us)
      (hin : ∀ (i : Nat) (h : i < l.length), Lay w (l[i]'h) ((us.drop (i * 6)).take 6)) : Lay w (.mk k t n r l a) [.int .i64 k, .string (mkB t), .bool n, lv, av, .int .i64 a]
theorem Lay.keep {w w' : World} (hb : Below w.heap.size w w') {d : Dm} {us : List Value} (h : Lay w d us) : Lay w' d us := by
  induction h with
  | mk hby hlt hlim hr hrow hin ih => exact .mk hby hlt hlim (hr.below hb) (hrow.below hb) ih
theorem Lay.len {w : World} {d : Dm} {us : List Value} (h : Lay w d us) : us.length = 6 := by cases h; rfl
/-- The cells, opened. -/
theorem Lay.open' {w : World} {d : Dm} {us : List Value} (h : Lay w d us) : ∃ lv av vs, us = [.int .i64 d.k, .string (mkB d.t), .bool d.n, lv, av, .int .i64 d.a] ∧ By d.t ∧ d.t.length ≤ maxLen ∧ (∀ i, limb d.r i < 4294967296) ∧ Sl .u32 w lv d.r ∧ RowV w av d.l.length 6 vs ∧ ∀ (i : Nat) (h : i < d.l.length), Lay w (d.l[i]'h) ((vs.drop (i * 6)).take 6) := by
  cases h with
  | mk hby hlt hlim hr hrow hin => exact ⟨_, _, _, rfl, hby, hlt, hlim, hr, hrow, hin⟩

end Go.Proofs.YtbfcbicbeagjkaaGreatDoor
namespace Go.Proofs.YtbfcbicbeagjkaaGreatDoor
open Go.RowKit

theorem Keeps.of_ks {P : Nat → Prop} {g : Nat} {w w' : World} (h : Ks g w w') (hg : ¬ P g) : Keeps P w w' :=
  ⟨h.size, fun b hb hp => h.oth b hb fun e => hg (e ▸ hp)⟩
/-- A datum's cells, all whose rows are in blocks of these. -/
inductive LayP (P : Nat → Prop) (w : World) : Dm → List Value → Prop
  | mk {k : Int} {t : List Nat} {n : Bool} {r : List Nat} {l : List Dm} {a : Int} {lv av : Value} {us : List Value} (hby : By t) (hlt : t.length ≤ maxLen) (hlim : ∀ i, limb r i < 4294967296) (hr : Sl .u32 w lv r) (hrp : InP P r.length lv) (hrow : RowV w av l.length 6 us) (hap : InP P l.length av)
      (hin : ∀ (i : Nat) (h : i < l.length), LayP P w (l[i]'h) ((us.drop (i * 6)).take 6)) : LayP P w (.mk k t n r l a) [.int .i64 k, .string (mkB t), .bool n, lv, av, .int .i64 a]
theorem LayP.lay {P : Nat → Prop} {w : World} {d : Dm} {us : List Value} (h : LayP P w d us) : Lay w d us := by
  induction h with
  | mk hby hlt hlim hr hrp hrow hap hin ih => exact .mk hby hlt hlim hr hrow ih
theorem Lay.layP {w : World} {d : Dm} {us : List Value} (h : Lay w d us) : LayP (fun b => b < w.heap.size) w d us := by
  induction h with
  | mk hby hlt hlim hr hrow hin ih => exact .mk hby hlt hlim hr (fun b h1 h2 => hr.lt b h1 h2) hrow (fun b h1 h2 => hrow.lt b h1 h2) ih
theorem LayP.mono {P Q : Nat → Prop} {w : World} {d : Dm} {us : List Value} (h : LayP P w d us) (hq : ∀ b, b < w.heap.size → P b → Q b) : LayP Q w d us := by
  induction h with
  | mk hby hlt hlim hr hrp hrow hap hin ih => exact .mk hby hlt hlim hr (hrp.mono hr.lt hq) hrow (hap.mono hrow.lt hq) ih
theorem LayP.move {P : Nat → Prop} {w w' : World} (hk : Keeps P w w') {d : Dm} {us : List Value} (h : LayP P w d us) : LayP P w' d us := by
  induction h with
  | mk hby hlt hlim hr hrp hrow hap hin ih => exact .mk hby hlt hlim (hr.move hrp hk) hrp (hrow.move hap hk) hap ih
theorem LayP.len {P : Nat → Prop} {w : World} {d : Dm} {us : List Value} (h : LayP P w d us) : us.length = 6 := by cases h; rfl

/-- All rows and texts in it are of at most so many. -/
inductive Sm (N : Nat) : Dm → Prop
  | mk {k : Int} {t : List Nat} {n : Bool} {r : List Nat} {l : List Dm} {a : Int} (ht : t.length ≤ N) (hr : r.length ≤ N) (hl : l.length ≤ N) (hin : ∀ (i : Nat) (h : i < l.length), Sm N (l[i]'h)) : Sm N (.mk k t n r l a)
theorem Sm.mono {N M : Nat} {d : Dm} (h : Sm N d) (hm : N ≤ M) : Sm M d := by
  induction h with
  | mk ht hr hl hin ih => exact .mk (Nat.le_trans ht hm) (Nat.le_trans hr hm) (Nat.le_trans hl hm) ih
theorem Sm.open' {N : Nat} {k : Int} {t : List Nat} {n : Bool} {r : List Nat} {l : List Dm} {a : Int} (h : Sm N (.mk k t n r l a)) : t.length ≤ N ∧ r.length ≤ N ∧ l.length ≤ N ∧ ∀ (i : Nat) (h : i < l.length), Sm N (l[i]'h) := by
  cases h with
  | mk ht hr hl hin => exact ⟨ht, hr, hl, hin⟩

/-- A row of datums that is owned: its cells, and the datums in them. -/
structure DmRow (P : Nat → Prop) (w : World) (l : List Dm) (us : List Value) : Prop where
  len : us.length = l.length * 6
  each : ∀ (i : Nat) (h : i < l.length), LayP P w (l[i]'h) ((us.drop (i * 6)).take 6)
theorem DmRow.nil (P : Nat → Prop) (w : World) : DmRow P w [] [] := ⟨rfl, fun i h => by simp at h⟩
theorem DmRow.snoc {P : Nat → Prop} {w : World} {l : List Dm} {us : List Value} (h : DmRow P w l us) {d : Dm} {cs : List Value} (hd : LayP P w d cs) : DmRow P w (l ++ [d]) (us ++ cs) := by
  have hc := hd.len
  have hl := h.len
  refine ⟨by simp [hl, hc]; omega, fun i hi => ?_⟩
  simp only [List.length_append, List.length_singleton] at hi
  rcases Nat.lt_or_ge i l.length with hin | hin
  · have e1 : ((us ++ cs).drop (i * 6)).take 6 = (us.drop (i * 6)).take 6 := by
      rw [List.drop_append_of_le_length (by omega), List.take_append_of_le_length (by rw [List.length_drop]; omega)]
    have e2 : (l ++ [d])[i] = l[i]'(by omega) := List.getElem_append_left (by omega)
    rw [e1, e2]
    exact h.each i hin
  · obtain rfl : i = l.length := by omega
    have e1 : ((us ++ cs).drop (l.length * 6)).take 6 = cs := by
      rw [List.drop_append_of_le_length (by omega), List.drop_of_length_le (by omega), List.nil_append, List.take_of_length_le (by omega)]
    have e2 : (l ++ [d])[l.length]'(by simp) = d := by
      rw [List.getElem_append_right (by omega)]
      simp
    rw [e1, e2]
    exact hd
theorem DmRow.move {P : Nat → Prop} {w w' : World} (hk : Keeps P w w') {l : List Dm} {us : List Value} (h : DmRow P w l us) : DmRow P w' l us := ⟨h.len, fun i hi => (h.each i hi).move hk⟩
theorem DmRow.mono {P Q : Nat → Prop} {w : World} {l : List Dm} {us : List Value} (h : DmRow P w l us) (hq : ∀ b, b < w.heap.size → P b → Q b) : DmRow Q w l us := ⟨h.len, fun i hi => (h.each i hi).mono hq⟩
theorem DmRow.take {P : Nat → Prop} {w : World} {l : List Dm} {us : List Value} (h : DmRow P w l us) (k : Nat) (hk : k ≤ l.length) : DmRow P w (l.take k) (us.take (k * 6)) := by
  have hl := h.len
  refine ⟨by rw [List.length_take, List.length_take, Nat.min_eq_left (by omega), Nat.min_eq_left hk], fun i hi => ?_⟩
  have hi2 : i < k := by simp at hi; omega
  have e1 : ((us.take (k * 6)).drop (i * 6)).take 6 = (us.drop (i * 6)).take 6 := by
    rw [List.drop_take, List.take_take, Nat.min_eq_left (by omega)]
  rw [e1, List.getElem_take]
  exact h.each i (by omega)
theorem DmRow.append {P : Nat → Prop} {w : World} {l m : List Dm} {us vs : List Value} (h : DmRow P w l us) (h' : DmRow P w m vs) : DmRow P w (l ++ m) (us ++ vs) := by
  have hl := h.len
  have hl' := h'.len
  refine ⟨by simp [hl, hl']; omega, fun i hi => ?_⟩
  simp only [List.length_append] at hi
  rcases Nat.lt_or_ge i l.length with hin | hin
  · have e1 : ((us ++ vs).drop (i * 6)).take 6 = (us.drop (i * 6)).take 6 := by
      rw [List.drop_append_of_le_length (by omega), List.take_append_of_le_length (by rw [List.length_drop]; omega)]
    have e2 : (l ++ m)[i] = l[i]'(by omega) := List.getElem_append_left (by omega)
    rw [e1, e2]
    exact h.each i hin
  · have e1 : ((us ++ vs).drop (i * 6)).take 6 = (vs.drop ((i - l.length) * 6)).take 6 := by
      rw [List.drop_append, List.drop_of_length_le (by omega), List.nil_append]
      congr 2
      omega
    have e2 : (l ++ m)[i] = m[i - l.length]'(by omega) := List.getElem_append_right (by omega)
    rw [e1, e2]
    exact h'.each _ (by omega)
/-- A datum's list, as a row. -/
theorem LayP.row {P : Nat → Prop} {w : World} {k : Int} {t : List Nat} {n : Bool} {r : List Nat} {l : List Dm} {a : Int} {us : List Value} (h : LayP P w (.mk k t n r l a) us) :
    ∃ lv av vs, us = [.int .i64 k, .string (mkB t), .bool n, lv, av, .int .i64 a] ∧ By t ∧ t.length ≤ maxLen ∧ (∀ i, limb r i < 4294967296) ∧ Sl .u32 w lv r ∧ InP P r.length lv ∧ RowV w av l.length 6 vs ∧ InP P l.length av ∧ DmRow P w l vs := by
  cases h with
  | mk hby hlt hlim hr hrp hrow hap hin => exact ⟨_, _, _, rfl, hby, hlt, hlim, hr, hrp, hrow, hap, ⟨hrow.1, hin⟩⟩
/-- The i-th of a row of datums. -/
theorem row_datum {w : World} {av : Value} {l : List Dm} {us : List Value} (hrow : RowV w av l.length 6 us) (hin : ∀ (i : Nat) (h : i < l.length), Lay w (l[i]'h) ((us.drop (i * 6)).take 6)) {i : Nat} (h : i < l.length) :
    ∃ b off cap v0 v1 v2 v3 v4 v5, av = .slice (some ⟨b, off, none⟩) l.length cap ∧ l.length ≤ cap ∧ b < w.heap.size ∧ Lay w (l[i]'h) [v0, v1, v2, v3, v4, v5] ∧ w.cell? ⟨b, off + i * 6, none⟩ = some v0 ∧ w.cell? ⟨b, off + i * 6 + 1, none⟩ = some v1 ∧ w.cell? ⟨b, off + i * 6 + 2, none⟩ = some v2 ∧
      w.cell? ⟨b, off + i * 6 + 3, none⟩ = some v3 ∧ w.cell? ⟨b, off + i * 6 + 4, none⟩ = some v4 ∧ w.cell? ⟨b, off + i * 6 + 5, none⟩ = some v5 := by
  obtain ⟨h1, _, ao, cap, h3, h4, h5⟩ := hrow
  have hl := hin i h
  have hlen := hl.len
  rcases h5 with ⟨h5, _⟩ | ⟨b, off, h5, h6, h7⟩
  · omega
  · have hg : ∀ j, j < 6 → ((us.drop (i * 6)).take 6)[j]? = us[i * 6 + j]? := fun j hj => by rw [List.getElem?_take, if_pos hj, List.getElem?_drop]
    generalize (us.drop (i * 6)).take 6 = es at *
    match es, hlen with
    | [v0, v1, v2, v3, v4, v5], _ =>
      subst h5
      have hc : ∀ j u, j < 6 → ([v0, v1, v2, v3, v4, v5] : List Value)[j]? = some u → w.cell? ⟨b, off + i * 6 + j, none⟩ = some u := fun j u hj hu => by
        rw [Nat.add_assoc]
        exact h7 _ _ (by rw [← hg j hj]; exact hu)
      exact ⟨b, off, cap, v0, v1, v2, v3, v4, v5, h3, h4, h6, hl, hc 0 _ (by omega) rfl, hc 1 _ (by omega) rfl, hc 2 _ (by omega) rfl, hc 3 _ (by omega) rfl, hc 4 _ (by omega) rfl, hc 5 _ (by omega) rfl⟩

end Go.Proofs.YtbfcbicbeagjkaaGreatDoor
namespace Go.Proofs.YtbfcbicbeagjkaaGreatDoor
open Go.RowKit

set_option maxRecDepth 100000 in
set_option maxHeartbeats 1000000 in
theorem rsound_any (neg : Bool) (sv : Value) (xs : List Nat) (w : World) (hs : Sl .u32 w sv xs) (hx : ∀ i, limb xs i < 4294967296) :
    Calls Tryz.prog 101 #[.agg #[.bool neg, sv]] w fun e w' => e = .returned (.bool (sndB neg xs)) ∧ Below w.heap.size w w' := by
  obtain ⟨hm, ao, cap, rfl, hcap, h⟩ := hs
  unfold maxLen at hm
  have HX := Lib.hid hx; clear hx
  have hb1 : Below w.heap.size w (w.alloc (.cells #[.bool neg, .slice ao xs.length cap] 24)) := (Below.refl _ w).alloc (Nat.le_refl _) _
  rcases (by omega : xs.length < 1 ∨ 64 < xs.length ∨ (1 ≤ xs.length ∧ xs.length ≤ 64)) with h0 | h64 | ⟨h1, h64⟩
  · clear h
    obtain rfl : xs = [] := List.eq_nil_of_length_eq_zero (by omega)
    have hv : sndB neg [] = !neg := by
      cases neg
      · exact sndB_true ⟨by simp, fun i => by rw [limb_out (by simp)]; omega, fun _ => rfl, fun h => absurd rfl h⟩
      · exact sndB_false fun h => by have := h.2.2.1 rfl; cases this
    have HV := Lib.hid hv; clear hv
    cases neg
    · go_enter Tryz.func101, Tryz.ntmps101
      go_wp2
      refine wp_loop_rounds 1 ?_
      rw [rounds_succ]
      go_wp2
      go_ret
      exact ⟨ret_bool HV.out.symm, hb1⟩
    · go_enter Tryz.func101, Tryz.ntmps101
      go_wp2
      go_ret
      exact ⟨ret_bool HV.out.symm, hb1⟩
  · clear h
    have HV := Lib.hid (sndB_false (neg := neg) (xs := xs) fun h => by have := h.1; omega)
    have hd : decide ((64 : Int) < (xs.length : Int)) = true := by simp; omega
    go_enter Tryz.func101, Tryz.ntmps101
    go_wp2
    go_ret
    exact ⟨ret_bool HV.out.symm, hb1⟩
  · rcases h with ⟨h, _⟩ | ⟨b, off, rfl, hb, hcell⟩
    · rw [h] at h1; simp at h1
    have HC : Hid (∀ j, j < xs.length → (w.alloc (.cells #[.bool neg, .slice (some ⟨b, off, none⟩) xs.length cap] 24)).cell? ⟨b, off + j, none⟩ = some (.int .u32 (limb xs j : Nat))) := Lib.hid fun j hj => by
      rw [hb1.cell (p := ⟨b, off + j, none⟩) hb]; exact hcell j hj
    clear hcell
    have hd : decide ((64 : Int) < (xs.length : Int)) = false := by simp; omega
    have hd0 : ((xs.length : Int) == 0) = false := by rw [beq_eq_false_iff_ne]; omega
    go_enter Tryz.func101, Tryz.ntmps101
    go_wp2
    go_loop [4] (fun i => ∃ k : Nat, k ≤ xs.length ∧ i = .int .i64 k ∧ ∀ j, j < k → limb xs j < 1000000000) (fun i => xs.length - (intOf i).toNat)
    case atStart => exact ⟨0, by omega, rfl, fun j hj => by omega⟩
    case round =>
      obtain ⟨k, hk, rfl, hall⟩ := hrel
      have HL := Lib.hid hall; clear hall
      by_cases hkl : k < xs.length
      · have hxk := HX.out k
        have hck := HC.out k hkl
        rcases Nat.lt_or_ge (limb xs k) 1000000000 with hlt | hge
        · have hd2 : decide ((1000000000 : Int) ≤ ((limb xs k : Nat) : Int)) = false := by rw [decide_eq_false_iff_not]; omega
          have HT := Lib.hid hlt; clear hlt
          go_wp2
          go_round
          case rel => exact ⟨k + 1, by omega, by first | rfl | go_num, fun j hj => by
            by_cases e : j = k
            · subst e; exact HT.out
            · exact HL.out j (by omega)⟩
          case measure => simp only [intOf]; omega
        · have HV := Lib.hid (sndB_false (neg := neg) (xs := xs) fun h => by have := h.2.1 k; omega)
          have hd2 : decide ((1000000000 : Int) ≤ ((limb xs k : Nat) : Int)) = true := by rw [decide_eq_true_iff]; omega
          clear hge
          go_wp2
          go_ret
          exact ⟨ret_bool HV.out.symm, hb1⟩
      · have hall : Lb xs := fun i => by
          by_cases e : i < xs.length
          · exact HL.out i (by omega)
          · rw [limb_out (by omega)]; omega
        have hct := HC.out (xs.length - 1) (by omega)
        rcases Nat.eq_zero_or_pos (limb xs (xs.length - 1)) with hz | hp
        · have hzb : (((limb xs (xs.length - 1) : Nat) : Int) != 0) = false := by rw [hz]; rfl
          have HV := Lib.hid (sndB_false (neg := neg) (xs := xs) fun h => by have := h.2.2.2 (by intro e; rw [e] at h1; simp at h1); omega)
          clear hz hall
          go_wp2
          go_ret
          exact ⟨ret_bool HV.out.symm, hb1⟩
        · have hzb : (((limb xs (xs.length - 1) : Nat) : Int) != 0) = true := by simp; omega
          have HV := Lib.hid (sndB_true (neg := neg) (xs := xs) ⟨h64, hall, fun e => by rw [e] at h1; simp at h1, fun _ => by omega⟩)
          clear hall
          go_wp2
          go_ret
          exact ⟨ret_bool HV.out.symm, hb1⟩

end Go.Proofs.YtbfcbicbeagjkaaGreatDoor
namespace Go.Proofs.YtbfcbicbeagjkaaGreatDoor
open Go.RowKit

theorem list_eq {xs ys : List Nat} (hl : xs.length = ys.length) (h : ∀ i, i < xs.length → limb xs i = limb ys i) : xs = ys := by
  apply List.ext_getElem hl
  intro i h1 h2
  have := h i h1
  rwa [limb_lt h1, limb_lt h2] at this

end Go.Proofs.YtbfcbicbeagjkaaGreatDoor
namespace Go.Proofs.YtbfcbicbeagjkaaGreatDoor
open Go.RowKit

/-- No number's sign and limbs. -/
def blankA (n : Bool) (r : List Nat) : Bool := !n && decide (r.length = 0)
/-- Is a text one symbol? -/
noncomputable def symbA (t : List Nat) : Bool := match atmA t with
  | some d => decide (d.k = 4)
  | none => false
/-- How many characters a text has, if it may be one. -/
noncomputable def lenA (t : List Nat) : Option Nat := if 65536 < t.length then none else if (chars t 0).2 = none then some (chars t 0).1.length else none
/-- May a leaf but an integer have that text? -/
noncomputable def wrtA (k : Int) (t : List Nat) : Bool :=
  if k = 4 then symbA t else if k = 5 then (match lenA t with | some n => decide (n ≤ 4096) | none => false) else if k = 6 then (match lenA t with | some n => decide (n = 1) | none => false)
  else if k = 8 ∨ k = 9 ∨ k = 10 then decide (t = []) else decide (k = 11)
/-- Has a list with a dot what it needs? -/
def endA (k : Int) (l : List Dm) : Bool := if k = 2 then match l.getLast? with
    | some x => decide (2 ≤ l.length) && !decide (x.k = 1 ∨ x.k = 2)
    | none => false
  else true
/-- May a datum be, if it is of at most so many levels? -/
noncomputable def okD : Nat → Dm → Bool
  | 0, _ => false
  | f + 1, d =>
    if d.k = 1 ∨ d.k = 2 ∨ d.k = 3 then decide (d.t = []) && blankA d.n d.r && endA d.k d.l && d.l.all (okD f)
    else if d.k = 7 then decide (d.t = []) && sndB d.n d.r && decide (d.l.length = 0)
    else wrtA d.k d.t && blankA d.n d.r && decide (d.l.length = 0)
/-- May it be? -/
noncomputable def sndD (d : Dm) : Bool := okD 64 d && decide (d.sz ≤ 8192)
theorem okD_zero (d : Dm) : okD 0 d = false := rfl
theorem okD_node {f : Nat} {k : Int} {t : List Nat} {n : Bool} {r : List Nat} {l : List Dm} {a : Int} (hk : k = 1 ∨ k = 2 ∨ k = 3) : okD (f + 1) (.mk k t n r l a) = (decide (t = []) && blankA n r && endA k l && l.all (okD f)) := by
  unfold okD
  exact if_pos hk
theorem okD_int {f : Nat} {t : List Nat} {n : Bool} {r : List Nat} {l : List Dm} {a : Int} : okD (f + 1) (.mk 7 t n r l a) = (decide (t = []) && sndB n r && decide (l.length = 0)) := by
  unfold okD
  show (if (7 : Int) = 1 ∨ (7 : Int) = 2 ∨ (7 : Int) = 3 then _ else if (7 : Int) = 7 then _ else _) = _
  rw [if_neg (by omega), if_pos rfl]
  rfl
theorem okD_leaf {f : Nat} {k : Int} {t : List Nat} {n : Bool} {r : List Nat} {l : List Dm} {a : Int} (hk : ¬ (k = 1 ∨ k = 2 ∨ k = 3)) (h7 : k ≠ 7) : okD (f + 1) (.mk k t n r l a) = (wrtA k t && blankA n r && decide (l.length = 0)) := by
  unfold okD
  show (if k = 1 ∨ k = 2 ∨ k = 3 then _ else if k = 7 then _ else _) = _
  rw [if_neg hk, if_neg h7]
  rfl
theorem sz_pos (d : Dm) : 1 ≤ d.sz := by rw [Dm.sz_eq]; omega
/-- How many the first i of a list are. -/
def szs (l : List Dm) (i : Nat) : Nat := ((l.take i).map Dm.sz).sum
theorem szs_zero (l : List Dm) : szs l 0 = 0 := by simp [szs]
theorem szs_succ {l : List Dm} {i : Nat} (h : i < l.length) : szs l (i + 1) = szs l i + (l[i]'h).sz := by
  unfold szs
  rw [List.take_add_one, List.getElem?_eq_getElem h, List.map_append, List.sum_append]
  simp
theorem szs_all (l : List Dm) : szs l l.length = (l.map Dm.sz).sum := by simp [szs]
theorem szs_mono {l : List Dm} : ∀ {j i : Nat}, i ≤ j → j ≤ l.length → szs l i ≤ szs l j := by
  intro j
  induction j with
  | zero => intro i h _; obtain rfl : i = 0 := by omega
            exact Nat.le_refl _
  | succ j ih =>
    intro i h hj
    rcases Nat.lt_or_ge j i with h2 | h2
    · obtain rfl : i = j + 1 := by omega
      exact Nat.le_refl _
    · rw [szs_succ (by omega)]
      have := ih h2 (by omega)
      omega
theorem sz_node {k : Int} {t : List Nat} {n : Bool} {r : List Nat} {l : List Dm} {a : Int} : (Dm.mk k t n r l a).sz = 1 + szs l l.length := by rw [Dm.sz_eq, szs_all]; rfl
theorem all_upto {p : Dm → Bool} {l : List Dm} (h : ∀ (j : Nat) (hj : j < l.length), p (l[j]'hj) = true) : l.all p = true := by
  rw [List.all_eq_true]
  intro x hx
  obtain ⟨j, hj, rfl⟩ := List.mem_iff_getElem.1 hx
  exact h j hj
theorem all_not {p : Dm → Bool} {l : List Dm} {j : Nat} (hj : j < l.length) (h : p (l[j]'hj) = false) : l.all p = false := by
  rw [List.all_eq_false]
  exact ⟨l[j], List.getElem_mem hj, by simp [h]⟩
end Go.Proofs.YtbfcbicbeagjkaaGreatDoor
namespace Go.Proofs.YtbfcbicbeagjkaaGreatDoor
open Go.RowKit

/-- What has no end yet: what it begins with, what stands in it, and how many ahead of its dot. -/
structure Pt where
  w : Wd
  l : List Dm
  dot : Nat
def zW : Wd := ⟨0, [], zD, 0, 0⟩
def zP : Pt := ⟨zW, [], 0⟩
/-- What stays true of what is open: the text at the bottom, and there alone. -/
def Base (ps : List Pt) : Prop := ∃ qs p, ps = qs ++ [p] ∧ p.w.kind = 0 ∧ (∀ q ∈ qs, q.w.kind ≠ 0) ∧ p.dot = 0
theorem Base.cons {p : Pt} {ps : List Pt} (h : Base ps) (hp : p.w.kind ≠ 0) : Base (p :: ps) := by
  obtain ⟨qs, q, rfl, h0, hq, hd⟩ := h
  refine ⟨p :: qs, q, rfl, h0, fun x hx => ?_, hd⟩
  rcases List.mem_cons.1 hx with rfl | hx
  · exact hp
  · exact hq x hx
theorem Base.tail {p : Pt} {ps : List Pt} (h : Base (p :: ps)) (hp : p.w.kind ≠ 0) : Base ps := by
  obtain ⟨qs, q, e, h0, hq, hd⟩ := h
  cases qs with
  | nil => simp at e; rw [e.1] at hp; exact absurd h0 hp
  | cons x qs =>
    simp only [List.cons_append, List.cons.injEq] at e
    exact ⟨qs, q, e.2, h0, fun y hy => hq y (List.mem_cons_of_mem _ hy), hd⟩
theorem Base.set {p q : Pt} {ps : List Pt} (h : Base (p :: ps)) (hk : q.w.kind = p.w.kind) (hd : p.w.kind = 0 → q.dot = 0) : Base (q :: ps) := by
  obtain ⟨qs, x, e, h0, hq, hx⟩ := h
  cases qs with
  | nil =>
    simp only [List.nil_append, List.cons.injEq] at e
    obtain ⟨rfl, rfl⟩ := e
    exact ⟨[], q, rfl, by rw [hk]; exact h0, fun y hy => (by cases hy), hd h0⟩
  | cons y qs =>
    simp only [List.cons_append, List.cons.injEq] at e
    obtain ⟨rfl, rfl⟩ := e
    refine ⟨q :: qs, x, rfl, h0, fun z hz => ?_, hx⟩
    rcases List.mem_cons.1 hz with rfl | hz
    · rw [hk]; exact hq p (by simp)
    · exact hq z (List.mem_cons_of_mem _ hz)
theorem Base.zero : Base [zP] := ⟨[], zP, rfl, rfl, fun q h => (by cases h), rfl⟩
end Go.Proofs.YtbfcbicbeagjkaaGreatDoor
