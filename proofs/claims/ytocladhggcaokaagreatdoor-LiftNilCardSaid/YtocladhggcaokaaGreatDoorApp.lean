/- append of a slice that reads as numbers, nil or not, onto a row of one's own. | A slice of bytes as a string. -/
import Derived.Test.YtocladhggcaokaaGreatDoorBase
import Derived.Laws.AppendOwnNone
import Derived.Laws.BytesArg
namespace Go.Proofs.YtocladhggcaokaaGreatDoor
open Go.RowKit

theorem grown_refl (w : World) (b : Option Nat) : w.grownBy w b := ⟨rfl, rfl, rfl, Nat.le_refl _, fun _ _ _ => rfl⟩
/-- A list of numbers as cells. -/
def cellsOf (k : IntKind) (xs : List Nat) : List Value := xs.map fun (x : Nat) => Value.int k (x : Int)
theorem cellsOf_append (k : IntKind) (xs ys : List Nat) : cellsOf k (xs ++ ys) = cellsOf k xs ++ cellsOf k ys := by simp [cellsOf]
theorem wpList_append_sl {P : Program} {w : World} {ops : Array Oper} {rest : List Oper} {o : Oper} {a : Act} {Q : Exit → Act → World → Prop} (hgd : o.guard = none) (s x : Operand) (t : TypeId)
    (ho : o.op = .call { callee := .builtin .append, args := #[s, x], argTypes := #[t, t] })
    (base : Nat) (e : TypeId) (i : TypeInfo) (z : Value) (bytes : Nat) (ht : P.underlying t = some (.slice e)) (hi : P.info? e = some i) (hz : i.zero = some z)
    (hsize : i.size = 1) (hby : i.bytes = bytes) (hzs : z.cells.size = 1)
    (v : Value) (n : Nat) (ys : List Value) (hs : a.eval s = v) (hown : w.ownsRow base e 1 v n ys)
    (k : IntKind) (sv : Value) (xs : List Nat) (hx : a.eval x = sv) (hsl : Sl k w sv xs)
    (h63 : n + xs.length ≤ maxLen) (hbytes : (n + xs.length) * bytes ≤ 140737488355328) (hbase : base ≤ w.heap.size)
    (h : ∀ v' w', w'.ownsRow base e 1 v' (n + xs.length) (ys ++ cellsOf k xs) → w.grownBy w' v.ownBlock → wpList P ops Q rest (a.put o.dst v') w') : wpList P ops Q (o :: rest) a w := by
  obtain ⟨hm, ao, cap, hv, hc, hh⟩ := hsl
  cases ao with
  | none =>
    rcases hh with ⟨h1, h2⟩ | ⟨b, off, h1, _⟩
    · subst h1
      have := h2 rfl
      subst this
      refine wpList_append_own_none hgd s x t ho base e i 1 ht hi v n ys hs hown (by rw [hx, hv]; rfl) (h v w ?_ (grown_refl w _))
      simpa [cellsOf] using hown
    · cases h1
  | some ad =>
    refine wpList_append_own _ hgd s x t ho base e i z 1 bytes ht hi hz hsize hby hzs (by decide) v n ys hs hown ad xs.length cap (cellsOf k xs) (by rw [hx, hv]) (by simp [cellsOf]) ?_ ?_ h63 hbytes hbase (fun v' w' h1 h2 _ => h v' w' h1 h2)
    · intro j u hu
      have hj : j < xs.length := by simpa [cellsOf] using (List.getElem?_eq_some_iff.1 hu).1
      rcases hh with ⟨h1, _⟩ | ⟨b, off, h1, hb, hcell⟩
      · rw [h1] at hj; exact absurd hj (by simp)
      · obtain rfl := Option.some.inj h1
        rw [Addr.add_lit, hcell j hj, limb_lt hj]
        simpa [cellsOf, hj] using hu
    · intro u hu
      obtain ⟨_, _, rfl⟩ := List.mem_map.1 hu
      rfl
end Go.Proofs.YtocladhggcaokaaGreatDoor
namespace Go.Proofs.YtocladhggcaokaaGreatDoor
open Go.RowKit

/-- Bytes as a string holds them. -/
def strOf (xs : List Nat) : ByteArray := ⟨(xs.map fun x => UInt8.ofNat x).toArray⟩
theorem conv_sl {P : Program} {w : World} {src e dst : TypeId} (hs : P.underlying src = some (.slice e)) (he : P.underlying e = some (.int .u8)) (hd : P.underlying dst = some .string) {v : Value} {xs : List Nat} (h : Sl .u8 w v xs) :
    (convert src dst v).run P w = .ok (.string (strOf xs)) w := by
  obtain ⟨hm, ao, cap, rfl, hc, hh⟩ := h
  have key : strOf xs = strOfNums (xs.map fun (x : Nat) => (x : Int)) := by
    unfold strOf strOfNums
    congr 2
    rw [List.map_map]
    apply List.map_congr_left
    intro x _
    simp
  cases ao with
  | none =>
    rcases hh with ⟨rfl, _⟩ | ⟨_, _, h1, _⟩
    · exact run_convert_bytes_nil w src e hs he _ _ dst hd
    · cases h1
  | some ad =>
    by_cases h0 : xs = []
    · subst h0
      rw [run_convert_bytes_string w src dst e _ _ cap hs he hd]
      exact run_bytesToString w ad 0 cap [] (run_loadCells_list (P := P) w ad [] (fun j u hu => by simp at hu))
    · rcases hh with ⟨h1, _⟩ | ⟨b, off, h1, _, hcell⟩
      · exact absurd h1 h0
      · obtain rfl := Option.some.inj h1
        rw [key]
        refine run_convert_bytes_arg w src e hs he b off xs.length cap _ (by simp) (fun i hi => ?_) dst hd
        rw [hcell i hi, limb_lt hi]
        simp [hi]
end Go.Proofs.YtocladhggcaokaaGreatDoor
