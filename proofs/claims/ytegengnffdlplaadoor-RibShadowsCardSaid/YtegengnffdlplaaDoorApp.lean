/- ref.Bytes, ref.one | Characters of parts of bytes, and of bytes of characters. No walk here. | ref.Chars, ref.Decode | append of a slice that reads as numbers, nil or not, onto a row of one's own. | A slice of bytes as a string. -/
import Derived.Test.YtegengnffdlplaaDoorUMath
import Derived.Test.YtegengnffdlplaaDoorUDec
import Derived.Test.YtegengnffdlplaaDoorBase
import Derived.Laws.AppendOwnNone
import Derived.Laws.BytesArg
namespace Go.Proofs.YtegengnffdlplaaDoor
open Go.RowKit

/-- A character's bytes. -/
def encN (c : Nat) : List Nat := if c < 128 then [c] else if c < 2048 then [192 + c / 64, 128 + c % 64] else if c < 65536 then [224 + c / 4096, 128 + c / 64 % 64, 128 + c % 64] else [240 + c / 262144, 128 + c / 4096 % 64, 128 + c / 64 % 64, 128 + c % 64]
theorem encN_len (c : Nat) : (encN c).length = blen c := by
  unfold encN blen
  repeat' split
  all_goals rfl
/-- What one answers. -/
def OnePost (bs : List Nat) (i : Nat) (w : World) (e : Ending) (w' : World) : Prop :=
  e = .returned (.tuple #[.int .i64 ((oneA bs i).1 : Nat), .int .i64 ((oneA bs i).2 : Nat)]) ∧ Below w.heap.size w w'
theorem OnePost.none {bs : List Nat} {i : Nat} {w w' : World} (h : oneA bs i = (0, 0)) (hb : Below w.heap.size w w') : OnePost bs i w (.returned (.tuple #[.int .i64 0, .int .i64 0])) w' := by
  refine ⟨by rw [h]; rfl, hb⟩
theorem OnePost.some {bs : List Nat} {i c n : Nat} {w w' : World} (h : oneA bs i = (c, n)) (hb : Below w.heap.size w w') : OnePost bs i w (.returned (.tuple #[.int .i64 (c : Nat), .int .i64 (n : Nat)])) w' := by
  refine ⟨by rw [h], hb⟩

end Go.Proofs.YtegengnffdlplaaDoor
namespace Go.Proofs.YtegengnffdlplaaDoor
open Go.RowKit

theorem limb_takeU (xs : List Nat) (n i : Nat) : limb (xs.take n) i = if i < n then limb xs i else 0 := by
  unfold limb
  simp only [List.getD_eq_getElem?_getD, List.getElem?_take]
  split <;> rfl
theorem By.take {bs : List Nat} (h : By bs) (n : Nat) : By (bs.take n) := fun i => by
  rw [limb_takeU]; split
  · exact h i
  · omega
theorem limb_app (a b : List Nat) (i : Nat) : limb (a ++ b) i = if i < a.length then limb a i else limb b (i - a.length) := by
  unfold limb
  simp only [List.getD_eq_getElem?_getD, List.getElem?_append]
  split <;> rfl
theorem By.app {a b : List Nat} (ha : By a) (hb : By b) : By (a ++ b) := fun i => by
  rw [limb_app]; split
  · exact ha i
  · exact hb _

theorem dc_shift (a b : List Nat) (j : Nat) : dc (a ++ b) (a.length + j) = dc b j := by
  have hq : ∀ t, limb (a ++ b) (a.length + j + t) = limb b (j + t) := fun t => by
    rw [limb_app, if_neg (by omega)]
    congr 1
    omega
  have hq0 := hq 0
  simp only [Nat.add_zero] at hq0
  unfold dc
  rw [hq0, hq 1, hq 2, hq 3]
  congr 1
  simp
  omega
theorem chars_shift (a b : List Nat) : ∀ (m j : Nat), b.length - j ≤ m → chars (a ++ b) (a.length + j) = ((chars b j).1, (chars b j).2.map (fun k => a.length + k)) := by
  intro m
  induction m with
  | zero =>
    intro j hj
    rw [chars_end (by simp; omega), chars_end (by omega)]
    rfl
  | succ m ih =>
    intro j hj
    by_cases hlt : j < b.length
    · have hd := dc_shift a b j
      cases hb : badB (dc b j)
      · have hz := dc_size b j
        rw [chars_step (by simp; omega) (by rw [hd]; exact hb), chars_step hlt hb, hd, Nat.add_assoc, ih _ (by omega)]
      · rw [chars_bad (by simp; omega) (by rw [hd]; exact hb), chars_bad hlt hb]
        rfl
    · rw [chars_end (by simp; omega), chars_end (by omega)]
      rfl
end Go.Proofs.YtegengnffdlplaaDoor
namespace Go.Proofs.YtegengnffdlplaaDoor
open Go.RowKit

/-- What Chars answers. -/
def chA (bs : List Nat) : List Nat × Int := match chars bs 0 with
  | (cs, none) => (cs, -1)
  | (_, some k) => ([], (k : Int))
def CharsPost (bs : List Nat) (w : World) (e : Ending) (w' : World) : Prop :=
  ∃ v, e = .returned (.tuple #[v, .int .i64 (chA bs).2]) ∧ Sl .i64 w' v (chA bs).1 ∧ Below w.heap.size w w'
theorem CharsPost.mk {bs : List Nat} {w w' : World} {v : Value} {cs : List Nat} {z : Int} (h : chA bs = (cs, z)) (hs : Sl .i64 w' v cs) (hb : Below w.heap.size w w') : CharsPost bs w (.returned (.tuple #[v, .int .i64 z])) w' := by
  refine ⟨v, by rw [h], by rw [h]; exact hs, hb⟩

end Go.Proofs.YtegengnffdlplaaDoor
namespace Go.Proofs.YtegengnffdlplaaDoor
open Go.RowKit

/-- A list of numbers as cells. -/
def cellsOf (k : IntKind) (xs : List Nat) : List Value := xs.map fun (x : Nat) => Value.int k (x : Int)
end Go.Proofs.YtegengnffdlplaaDoor
namespace Go.Proofs.YtegengnffdlplaaDoor
open Go.RowKit

/-- Bytes as a string holds them. -/
def strOf (xs : List Nat) : ByteArray := ⟨(xs.map fun x => UInt8.ofNat x).toArray⟩
theorem conv_sl {P : Program} {w : World} {src e dst : TypeId} (hs : P.underlying src = some (.slice e)) (he : P.underlying e = some (.int .u8)) (hd : P.underlying dst = some .string) {v : Value} {xs : List Nat} (h : Sl .u8 w v xs) :
    (convert src dst v).run P w = .ok (.string (strOf xs)) w := by
  obtain ⟨hm, ao, cap, rfl, hc, hh⟩ := h
  have key : strOf xs = strOfNums (xs.map fun (x : Nat) => (x : Int)) := by
    unfold strOf strOfNums
    congr 2
    rw [List.map_map]
    apply List.map_congr_left
    intro x _
    simp
  cases ao with
  | none =>
    rcases hh with ⟨rfl, _⟩ | ⟨_, _, h1, _⟩
    · exact run_convert_bytes_nil w src e hs he _ _ dst hd
    · cases h1
  | some ad =>
    by_cases h0 : xs = []
    · subst h0
      rw [run_convert_bytes_string w src dst e _ _ cap hs he hd]
      exact run_bytesToString w ad 0 cap [] (run_loadCells_list (P := P) w ad [] (fun j u hu => by simp at hu))
    · rcases hh with ⟨h1, _⟩ | ⟨b, off, h1, _, hcell⟩
      · exact absurd h1 h0
      · obtain rfl := Option.some.inj h1
        rw [key]
        refine run_convert_bytes_arg w src e hs he b off xs.length cap _ (by simp) (fun i hi => ?_) dst hd
        rw [hcell i hi, limb_lt hi]
        simp [hi]
end Go.Proofs.YtegengnffdlplaaDoor
