/- x -/
import Derived.Test.YtbfcbicbeagjkaaGreatDoorBase
import Derived.Test.YtbfcbicbeagjkaaGreatDoorRows
import Derived.Test.YtbfcbicbeagjkaaGreatDoorMem
import Derived.ProofKit
import Derived.OpenShut
import Derived.Carry
import Derived.Deep.MidRow
import Derived.SliceStrings
import Derived.SizedLaws
namespace Go.Proofs.YtbfcbicbeagjkaaGreatDoor
open Go.ChangeShapes Go.WideShapes Go.ChangeAt Go.RowKit
end Go.Proofs.YtbfcbicbeagjkaaGreatDoor
namespace Go.Proofs.YtbfcbicbeagjkaaGreatDoor
open Go.RowKit
def vc (x : Int × Int) : List Value := [.int .i64 x.1, .int .i64 x.2]
def sdV (no nn : Nat) (v : Int × Int) : Bool :=
 if v.1 = 0 ∨ v.1 = 1 ∨ v.1 = 2 ∨ v.1 = 3 ∨ v.1 = 9 then decide (v.2 = 0)
 else if v.1 = 4 then true
 else if v.1 = 5 then scB v.2
 else if v.1 = 6 then decide (0 ≤ v.2 ∧ v.2 < (nn : Int))
 else if v.1 = 7 then decide (0 ≤ v.2 ∧ v.2 < (no : Int))
 else if v.1 = 8 then decide (0 ≤ v.2 ∧ v.2 < 256) else false
structure Px where
 k : Int
 t : ByteArray
 ng : Bool
 lm : List Nat
 a : Int
 ms : List Int
 sb : List Int
structure Ob where
 k : Int
 c : Nat
 s : List (Int × Int)
 x : Option Px
structure St where
 L : Nat
 U : Nat
 os : List Ob
 ns : List ByteArray
end Go.Proofs.YtbfcbicbeagjkaaGreatDoor
namespace Go.Proofs.YtbfcbicbeagjkaaGreatDoor
open Go.RowKit
structure Fr (R : Nat → Nat) (w w' : World) : Prop where
 os : w'.os = w.os
 tape : w'.tape = w.tape
 output : w'.output = w.output
 size : w.heap.size ≤ w'.heap.size
 blk : ∀ b, b < w.heap.size → R b = 0 → w'.heap[b]? = w.heap[b]?
def ics (k : IntKind) (l : List Int) : List Value := l.map (Value.int k)
def ucs (l : List Nat) : List Value := l.map fun (x : Nat) => Value.int .u32 (x : Int)
def PxAt (P : Nat → Prop) (w : World) (pv : Value) : Option Px → Prop
 | none => pv = .pointer none
 | some p => ∃ b lv av mv sv, pv = .pointer (some ⟨b, 0, none⟩) ∧ P b ∧ w.heap[b]? = some (.cells #[.int .i64 p.k, .string p.t, .bool p.ng, lv, av, .int .i64 p.a, mv, sv] 35 (0, 0)) ∧
  RowV w lv p.lm.length 1 (ucs p.lm) ∧ InP P p.lm.length lv ∧ RowV w av 0 8 [] ∧ RowV w mv p.ms.length 1 (ics .i64 p.ms) ∧ InP P p.ms.length mv ∧ RowV w sv p.sb.length 1 (ics .i64 p.sb) ∧ InP P p.sb.length sv
def MapS (w : World) (b : Nat) (ns : List ByteArray) : Prop := ∃ es clock, w.heap[b]? = some (.map es clock) ∧ es.size = ns.length ∧ ∀ i (h : i < ns.length), ∃ e, es[i]? = some e ∧ e.key = .string (ns[i]'h) ∧ e.val = .int .i64 (i : Nat)
def MapOk (R : Nat → Nat) (w : World) (mv : Value) (ns : List ByteArray) : Prop := (mv = .map none ∧ ns = []) ∨ ∃ b, mv = .map (some b) ∧ R b = 4 ∧ MapS w b ns
theorem le_sum {f : Ob → Nat} : ∀ (l : List Ob) (o : Ob), o ∈ l → f o ≤ (l.map f).sum
 | [], o, h => by cases h
 | x :: l, o, h => by
  rw [List.map_cons, List.sum_cons]
  rcases List.mem_cons.1 h with rfl | h
  . omega
  . have := le_sum (f := f) l o h; omega
theorem len_le_sum {f : Ob → Nat} : ∀ (l : List Ob), (∀ o ∈ l, 1 ≤ f o) → l.length ≤ (l.map f).sum
 | [], _ => by simp
 | x :: l, h => by
  rw [List.map_cons, List.sum_cons]
  have h1 := h x (by simp)
  have h2 := len_le_sum (f := f) l fun o ho => h o (by simp [ho])
  simp only [List.length_cons]
  omega
end Go.Proofs.YtbfcbicbeagjkaaGreatDoor
namespace Go.Proofs.YtbfcbicbeagjkaaGreatDoor
open Go.ChangeShapes Go.WideShapes Go.ChangeAt Go.RowKit
set_option maxRecDepth 100000 in
theorem cellsIn : Tryz.prog.cellsOf 3 = 1 := by kernel_rfl
theorem gatherA {α : Type} {sz : Nat} {P : Nat → List Value → α → Prop} : ∀ len, (∀ i, i < len → ∃ cs D, cs.length = sz ∧ P i cs D) → ∃ (l : List α) (us : List Value), l.length = len ∧ us.length = len * sz ∧ ∀ (i : Nat) (h : i < l.length), P i ((us.drop (i * sz)).take sz) (l[i]'h) := by
 intro len
 induction len with
 | zero => intro _; exact ⟨[], [], rfl, by simp, fun i h => by simp at h⟩
 | succ n ih =>
  intro h
  obtain ⟨l, us, h1, h2, h3⟩ := ih fun i hi => h i (by omega)
  obtain ⟨cs, D, h4, h5⟩ := h n (by omega)
  refine ⟨l ++ [D], us ++ cs, by simp [h1], by rw [List.length_append, h2, h4, Nat.succ_mul], fun i hi => ?_⟩
  simp only [List.length_append, List.length_singleton] at hi
  rcases Nat.lt_or_ge i n with hin | hin
  . have h6 := h3 i (by omega)
    have hle : i * sz + sz ≤ n * sz := by rw [← Nat.succ_mul]; exact Nat.mul_le_mul_right _ hin
    have e1 : ((us ++ cs).drop (i * sz)).take sz = (us.drop (i * sz)).take sz := by
     rw [List.drop_append_of_le_length (by omega), List.take_append_of_le_length (by rw [List.length_drop]; omega)]
    have e2 : (l ++ [D])[i] = l[i]'(by omega) := List.getElem_append_left (by omega)
    rw [e1, e2]
    exact h6
  . have : i = n := by omega
    subst this
    have e1 : ((us ++ cs).drop (i * sz)).take sz = cs := by
     rw [List.drop_append_of_le_length (by omega), List.drop_of_length_le (by omega), List.nil_append, List.take_of_length_le (by omega)]
    have e2 : (l ++ [D])[i]'(by simp; omega) = D := by
     rw [List.getElem_append_right (by omega)]
     simp [h1]
    rw [e1, e2]
    exact h5
theorem row_gather {W : World} {ad : Addr} {len cap sz : Nat} {us : List Value} (hsz : 0 < sz) (h1 : us.length = len * sz) (h2 : len ≤ maxLen) (h3 : len ≤ cap) (hc : ∀ i, i < len → W.cells? 0 (ad.add (i * sz)) sz = some ((us.drop (i * sz)).take sz)) : RowV W (.slice (some ad) len cap) len sz us := by
 refine ⟨h1, h2, some ad, cap, rfl, h3, ?_⟩
 by_cases h00 : len = 0
 . exact .inl ⟨h00, fun h => by cases h⟩
 . have hpos : 0 < us.length := by rw [h1]; exact Nat.mul_pos (by omega) hsz
   have hc0 := (World.cells?_some (hc 0 (by omega))).2.2 0 (by omega)
   obtain ⟨b, off, spot⟩ := ad
   have hcs : ((us.drop (0 * sz)).take sz)[0]? = some us[0] := by
    rw [Nat.zero_mul, List.drop_zero, List.getElem?_take, if_pos hsz, List.getElem?_eq_getElem hpos]
   rw [hcs] at hc0
   have hspot : spot = none := by simpa [Addr.add] using World.cell?_spot hc0
   subst hspot
   refine .inr ⟨b, off, rfl, World.block_lt_of_cell? W _ (by rw [Addr.add_mid, Addr.add_mid] at hc0; exact hc0), fun j u hu => ?_⟩
   have hj : j < us.length := (List.getElem?_eq_some_iff.1 hu).1
   have hdm := Nat.div_add_mod' j sz
   have hlt : j / sz < len := Nat.div_lt_of_lt_mul (by rw [Nat.mul_comm, ← h1]; exact hj)
   have hc1 := (World.cells?_some (hc (j / sz) hlt)).2.2 (j % sz) (Nat.mod_lt _ hsz)
   rw [Addr.add_mid, Addr.add_mid, List.getElem?_take, if_pos (Nat.mod_lt _ hsz), List.getElem?_drop, hdm, hu, Nat.add_assoc, hdm] at hc1
   exact hc1
end Go.Proofs.YtbfcbicbeagjkaaGreatDoor
namespace Go.Proofs.YtbfcbicbeagjkaaGreatDoor
open Go.ChangeShapes Go.WideShapes Go.ChangeAt Go.RowKit
inductive Sx where
 | mk (k : Int) (t : ByteArray) (n : Bool) (r : List Nat) (l : List Sx) (a : Int) (m s : List Int)
def Sx.k : Sx → Int | .mk k _ _ _ _ _ _ _ => k
def Sx.t : Sx → ByteArray | .mk _ t _ _ _ _ _ _ => t
def Sx.n : Sx → Bool | .mk _ _ n _ _ _ _ _ => n
def Sx.r : Sx → List Nat | .mk _ _ _ r _ _ _ _ => r
def Sx.l : Sx → List Sx | .mk _ _ _ _ l _ _ _ => l
def Sx.a : Sx → Int | .mk _ _ _ _ _ a _ _ => a
def Sx.m : Sx → List Int | .mk _ _ _ _ _ _ m _ => m
def Sx.s : Sx → List Int | .mk _ _ _ _ _ _ _ s => s
inductive SLay (w : World) : Sx → List Value → Prop
 | mk {k : Int} {t : ByteArray} {n : Bool} {r : List Nat} {l : List Sx} {a : Int} {m s : List Int} {lv av mv sv : Value} {us : List Value} (ht : t.size ≤ maxLen) (hlim : ∀ x ∈ r, x < 4294967296) (hr : RowV w lv r.length 1 (ucs r)) (hrow : RowV w av l.length 8 us) (hm : RowV w mv m.length 1 (ics .i64 m)) (hs : RowV w sv s.length 1 (ics .i64 s))
  (hin : ∀ (i : Nat) (h : i < l.length), SLay w (l[i]'h) ((us.drop (i * 8)).take 8)) : SLay w (.mk k t n r l a m s) [.int .i64 k, .string t, .bool n, lv, av, .int .i64 a, mv, sv]
theorem SLay.keep {w w' : World} (hb : Below w.heap.size w w') {d : Sx} {us : List Value} (h : SLay w d us) : SLay w' d us := by
 induction h with
 | mk ht hlim hr hrow hm hs hin ih => exact .mk ht hlim (hr.below hb) (hrow.below hb) (hm.below hb) (hs.below hb) ih
theorem SLay.len {w : World} {d : Sx} {us : List Value} (h : SLay w d us) : us.length = 8 := by cases h; rfl
theorem SLay.open' {w : World} {d : Sx} {us : List Value} (h : SLay w d us) : ∃ lv av mv sv vs, us = [.int .i64 d.k, .string d.t, .bool d.n, lv, av, .int .i64 d.a, mv, sv] ∧ d.t.size ≤ maxLen ∧ (∀ x ∈ d.r, x < 4294967296) ∧ RowV w lv d.r.length 1 (ucs d.r) ∧ RowV w av d.l.length 8 vs ∧ RowV w mv d.m.length 1 (ics .i64 d.m) ∧ RowV w sv d.s.length 1 (ics .i64 d.s) ∧ ∀ (i : Nat) (h : i < d.l.length), SLay w (d.l[i]'h) ((vs.drop (i * 8)).take 8) := by
 cases h with
 | mk ht hlim hr hrow hm hs hin => exact ⟨_, _, _, _, _, rfl, ht, hlim, hr, hrow, hm, hs, hin⟩
set_option maxRecDepth 100000 in
theorem cellsSx : Tryz.prog.cellsOf 35 = 8 := by kernel_rfl
set_option maxRecDepth 100000 in
theorem cellsNm8 : Tryz.prog.cellsOf 24 = 2 := by kernel_rfl
set_option maxRecDepth 100000 in
theorem cellsSt8 : Tryz.prog.cellsOf 9 = 1 := by kernel_rfl
set_option maxRecDepth 100000 in
theorem cellsSl8 : Tryz.prog.cellsOf 33 = 1 := by kernel_rfl
set_option maxRecDepth 100000 in
theorem cellsIs8 : Tryz.prog.cellsOf 28 = 1 := by kernel_rfl
set_option maxRecDepth 100000 in
theorem cellsBo8 : Tryz.prog.cellsOf 4 = 1 := by kernel_rfl
set_option maxRecDepth 100000 in
theorem cellsLi8 : Tryz.prog.cellsOf 22 = 1 := by kernel_rfl
set_option maxRecDepth 100000 in
theorem cellsLu8 : Tryz.prog.cellsOf 140 = 1 := by kernel_rfl
theorem list8 {cs : List Value} (h : cs.length = 8) : ∃ a b c d e f g i, cs = [a, b, c, d, e, f, g, i] := by
 match cs, h with
 | [a, b, c, d, e, f, g, i], _ => exact ⟨a, b, c, d, e, f, g, i, rfl⟩
theorem row_nil8 (w : World) (size : Nat) : RowV w (.slice none 0 0) 0 size [] := ⟨by simp, Nat.zero_le _, none, 0, rfl, Nat.le_refl _, .inl ⟨rfl, fun _ => rfl⟩⟩
theorem row_ints {w : World} {a : Addr} {len cap : Nat} {us : List Value} (h1 : us.length = len) (h2 : len ≤ maxLen) (h3 : len ≤ cap) (hc : 0 < len → ∃ b off, a = ⟨b, off, none⟩ ∧ ∀ j (h : j < us.length), w.cell? ⟨b, off + j, none⟩ = some (us[j]'h)) : RowV w (.slice (some a) len cap) len 1 us := by
 refine ⟨by omega, h2, some a, cap, rfl, h3, ?_⟩
 by_cases h0 : len = 0
 . exact .inl ⟨h0, fun h => by cases h⟩
 . obtain ⟨b, off, rfl, hcc⟩ := hc (Nat.pos_of_ne_zero h0)
   refine .inr ⟨b, off, rfl, World.block_lt_of_cell? w _ (hcc 0 (by omega)), fun j u hu => ?_⟩
   obtain ⟨hj, rfl⟩ := List.getElem?_eq_some_iff.1 hu
   exact hcc j hj
set_option maxRecDepth 100000 in
theorem trod_row_u {H : Type} {enc : TypeId × Value → H} {W : World} {n : Nat} {v : Value} {x : DataW H × List MemPlace} (h : DataW.trod enc Tryz.prog W 0 (fun _ => true) true n 22 [v] = some x) : ∃ xs : List Nat, RowV W v xs.length 1 (ucs xs) ∧ ∀ x ∈ xs, x < 4294967296 := by
 rcases open_ints Tryz.underlying22 Tryz.underlying140 cellsLu8 h with ⟨e1, _⟩ | ⟨a, len, cap, zs, e1, _, hl, hcm, hz, _, hcell, hwz⟩
 . simp only [List.cons.injEq, and_true] at e1
   subst e1
   exact ⟨[], row_nil8 _ _, fun x hx => by cases hx⟩
 . simp only [List.cons.injEq, and_true] at e1
   subst e1
   simp only [if_true] at hz
   have hp : ∀ n ∈ zs, 0 ≤ n ∧ n < 4294967296 := fun n hn => by
    have := hwz n hn
    simp [Lit.wf, IntKind.min, IntKind.max, IntKind.signed, IntKind.bits] at this
    omega
   have e2 : ((zs.take len).map Int.toNat).length = len := by simp; omega
   refine ⟨(zs.take len).map Int.toNat, ?_, fun x hx => ?_⟩
   . rw [e2]
     refine row_ints (by unfold ucs; simp; omega) (by omega) hl fun h0 => ?_
     obtain ⟨b, off, rfl, hc⟩ := ints_at hcell (show 0 < zs.length by omega)
     refine ⟨b, off, rfl, fun j hj => ?_⟩
     have hj2 : j < len := by unfold ucs at hj; simp at hj; omega
     have hz0 := (hp zs[j] (List.getElem_mem _)).1
     rw [hc j (show j < zs.length by omega)]
     unfold ucs
     simp [show j < zs.length by omega]
     omega
   . obtain ⟨z, hz1, rfl⟩ := List.mem_map.1 hx
     have := hp z (List.mem_of_mem_take hz1)
     omega
end Go.Proofs.YtbfcbicbeagjkaaGreatDoor
