/- A store, as it is thought of: values, objects, which values are sound, how values lie in cells. No walk here. -/
import Derived.Test.YtocladhggcaokaaGreatDoorMem
namespace Go.Proofs.YtocladhggcaokaaGreatDoor
open Go.RowKit

/-- A value's cells: its tag and its number. -/
def vc (x : Int × Int) : List Value := [.int .i64 x.1, .int .i64 x.2]
def vcs (l : List (Int × Int)) : List Value := l.flatMap vc
def vV (x : Int × Int) : Value := .agg #[.int .i64 x.1, .int .i64 x.2]
theorem vcs_nil : vcs [] = [] := rfl
theorem vcs_cons (x : Int × Int) (l : List (Int × Int)) : vcs (x :: l) = .int .i64 x.1 :: .int .i64 x.2 :: vcs l := rfl
theorem vcs_append (l m : List (Int × Int)) : vcs (l ++ m) = vcs l ++ vcs m := by simp [vcs]
theorem vcs_len (l : List (Int × Int)) : (vcs l).length = l.length * 2 := by
  induction l with
  | nil => rfl
  | cons x l ih => rw [vcs_cons]; simp only [List.length_cons, ih]; omega
theorem vcs_get : ∀ (l : List (Int × Int)) (i : Nat) (h : i < l.length), (vcs l)[i * 2]? = some (.int .i64 (l[i]'h).1) ∧ (vcs l)[i * 2 + 1]? = some (.int .i64 (l[i]'h).2)
  | [], i, h => by simp at h
  | x :: l, 0, _ => ⟨rfl, rfl⟩
  | x :: l, i + 1, h => by
    have := vcs_get l i (by simpa using h)
    rw [vcs_cons, show (i + 1) * 2 = i * 2 + 1 + 1 by omega, show i * 2 + 1 + 1 + 1 = i * 2 + 1 + 1 + 1 by omega]
    simpa using this
theorem vcs_set : ∀ (l : List (Int × Int)) (i : Nat) (_ : i < l.length) (x : Int × Int), vcs (l.set i x) = ((vcs l).set (i * 2) (.int .i64 x.1)).set (i * 2 + 1) (.int .i64 x.2)
  | [], i, h, _ => by simp at h
  | y :: l, 0, _, x => rfl
  | y :: l, i + 1, h, x => by
    have := vcs_set l i (by simpa using h) x
    rw [List.set_cons_succ, vcs_cons, vcs_cons, this, show (i + 1) * 2 = i * 2 + 1 + 1 by omega]
    rfl
theorem vcs_one (l : List (Int × Int)) : ∀ u ∈ vcs l, u.oneCell' = true := by
  intro u hu
  unfold vcs at hu
  rw [List.mem_flatMap] at hu
  obtain ⟨x, _, hx⟩ := hu
  simp [vc] at hx
  rcases hx with rfl | rfl <;> rfl

/-- Sound, where there are so many objects and names? -/
def sdV (no nn : Nat) (v : Int × Int) : Bool :=
  if v.1 = 0 ∨ v.1 = 1 ∨ v.1 = 2 ∨ v.1 = 3 ∨ v.1 = 9 then decide (v.2 = 0)
  else if v.1 = 4 then true
  else if v.1 = 5 then scB v.2
  else if v.1 = 6 then decide (0 ≤ v.2 ∧ v.2 < (nn : Int))
  else if v.1 = 7 then decide (0 ≤ v.2 ∧ v.2 < (no : Int))
  else if v.1 = 8 then decide (0 ≤ v.2 ∧ v.2 < 256) else false
theorem sdV_obj {no nn : Nat} {v : Int × Int} (h : v.1 = 7) : sdV no nn v = decide (0 ≤ v.2 ∧ v.2 < (no : Int)) := by
  unfold sdV; simp [h]
theorem sdV_sym {no nn : Nat} {v : Int × Int} (h : v.1 = 6) : sdV no nn v = decide (0 ≤ v.2 ∧ v.2 < (nn : Int)) := by
  unfold sdV; simp [h]
/-- May there be objects of that kind with so many slots? -/
def mayA (k : Int) (n : Nat) : Bool := if k = 1 then decide (n = 2) else if k = 3 then decide (n = 1) else decide (1 ≤ k ∧ k ≤ 9)

/-- A piece of syntax in which no other one stands. -/
structure Px where
  k : Int
  t : ByteArray
  ng : Bool
  lm : List Nat
  a : Int
  ms : List Int
  sb : List Int
/-- An object: kind, cells, slots, piece. -/
structure Ob where
  k : Int
  c : Nat
  s : List (Int × Int)
  x : Option Px
/-- A store: its limit, what is used, objects, names. -/
structure St where
  L : Nat
  U : Nat
  os : List Ob
  ns : List ByteArray
/-- An object that a value stands for. -/
def St.obj (s : St) (v : Int × Int) : Option Ob := if v.1 = 7 ∧ 0 ≤ v.2 then s.os[v.2.toNat]? else none
theorem St.obj_some {s : St} {v : Int × Int} {o : Ob} (h : s.obj v = some o) : v.1 = 7 ∧ 0 ≤ v.2 ∧ v.2.toNat < s.os.length ∧ s.os[v.2.toNat]? = some o := by
  unfold St.obj at h
  split at h
  · rename_i hc
    exact ⟨hc.1, hc.2, (List.getElem?_eq_some_iff.1 h).1, h⟩
  · cases h
theorem St.obj_sound {s : St} {v : Int × Int} (n : Nat) : (s.obj v).isSome = (decide (v.1 = 7) && sdV s.os.length n v) := by
  unfold St.obj
  by_cases h7 : v.1 = 7
  · rw [sdV_obj h7]
    by_cases h0 : 0 ≤ v.2
    · rw [if_pos ⟨h7, h0⟩, Bool.eq_iff_iff]
      simp [h7, h0]
      try omega
    · rw [if_neg (fun h => h0 h.2)]
      simp [h0]
  · rw [if_neg (fun h => h7 h.1)]
    simp [h7]
def St.kind (s : St) (v : Int × Int) : Int := match s.obj v with
  | some o => o.k
  | none => 0
def St.len (s : St) (v : Int × Int) : Nat := match s.obj v with
  | some o => o.s.length
  | none => 0
/-- What a slot has, or why there is none. -/
def St.get (s : St) (v : Int × Int) (i : Int) : (Int × Int) × Int := match s.obj v with
  | none => ((0, 0), 10)
  | some o => if 0 ≤ i then match o.s[i.toNat]? with
    | some x => (x, 0)
    | none => ((0, 0), 12) else ((0, 0), 12)
def Ob.put (o : Ob) (i : Nat) (x : Int × Int) : Ob := { o with s := o.s.set i x }
def St.put (s : St) (n i : Nat) (x : Int × Int) : St := { s with os := s.os.modify n fun o => o.put i x }
/-- An object more. -/
def St.add (s : St) (o : Ob) : St := { s with U := s.U + o.c, os := s.os ++ [o] }
/-- What Make answers, and what is there then. -/
def St.make (s : St) (k : Int) (l : List (Int × Int)) : ((Int × Int) × Int) × St :=
  if mayA k l.length = false then (((0, 0), 1), s)
  else if l.all (sdV s.os.length s.ns.length) = false then (((0, 0), 2), s)
  else if s.L < s.U + (1 + l.length) then (((0, 0), 16), s)
  else (((7, (s.os.length : Nat)), 0), s.add ⟨k, 1 + l.length, l, none⟩)
def St.setA (s : St) (v : Int × Int) (i : Int) (x : Int × Int) : Int × St :=
  if (s.get v i).2 ≠ 0 then ((s.get v i).2, s)
  else if sdV s.os.length s.ns.length x = false then (2, s)
  else (0, s.put v.2.toNat i.toNat x)
end Go.Proofs.YtocladhggcaokaaGreatDoor
