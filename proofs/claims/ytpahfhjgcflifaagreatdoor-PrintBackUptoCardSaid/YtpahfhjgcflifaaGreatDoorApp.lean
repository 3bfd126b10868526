/- append of a slice that reads as numbers, nil or not, onto a row of one's own. | A slice of bytes as a string. -/
import Derived.Test.YtpahfhjgcflifaaGreatDoorBase
import Derived.Laws.AppendOwnNone
import Derived.Laws.BytesArg
namespace Go.Proofs.YtpahfhjgcflifaaGreatDoor
open Go.RowKit

/-- A list of numbers as cells. -/
def cellsOf (k : IntKind) (xs : List Nat) : List Value := xs.map fun (x : Nat) => Value.int k (x : Int)
theorem cellsOf_append (k : IntKind) (xs ys : List Nat) : cellsOf k (xs ++ ys) = cellsOf k xs ++ cellsOf k ys := by simp [cellsOf]
end Go.Proofs.YtpahfhjgcflifaaGreatDoor
namespace Go.Proofs.YtpahfhjgcflifaaGreatDoor
open Go.RowKit

/-- Bytes as a string holds them. -/
def strOf (xs : List Nat) : ByteArray := ⟨(xs.map fun x => UInt8.ofNat x).toArray⟩
theorem conv_sl {P : Program} {w : World} {src e dst : TypeId} (hs : P.underlying src = some (.slice e)) (he : P.underlying e = some (.int .u8)) (hd : P.underlying dst = some .string) {v : Value} {xs : List Nat} (h : Sl .u8 w v xs) :
    (convert src dst v).run P w = .ok (.string (strOf xs)) w := by
  obtain ⟨hm, ao, cap, rfl, hc, hh⟩ := h
  have key : strOf xs = strOfNums (xs.map fun (x : Nat) => (x : Int)) := by
    unfold strOf strOfNums
    congr 2
    rw [List.map_map]
    apply List.map_congr_left
    intro x _
    simp
  cases ao with
  | none =>
    rcases hh with ⟨rfl, _⟩ | ⟨_, _, h1, _⟩
    · exact run_convert_bytes_nil w src e hs he _ _ dst hd
    · cases h1
  | some ad =>
    by_cases h0 : xs = []
    · subst h0
      rw [run_convert_bytes_string w src dst e _ _ cap hs he hd]
      exact run_bytesToString w ad 0 cap [] (run_loadCells_list (P := P) w ad [] (fun j u hu => by simp at hu))
    · rcases hh with ⟨h1, _⟩ | ⟨b, off, h1, _, hcell⟩
      · exact absurd h1 h0
      · obtain rfl := Option.some.inj h1
        rw [key]
        refine run_convert_bytes_arg w src e hs he b off xs.length cap _ (by simp) (fun i hi => ?_) dst hd
        rw [hcell i hi, limb_lt hi]
        simp [hi]
end Go.Proofs.YtpahfhjgcflifaaGreatDoor
