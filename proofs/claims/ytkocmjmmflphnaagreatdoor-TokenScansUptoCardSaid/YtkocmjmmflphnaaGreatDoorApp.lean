/- append of a slice that reads as numbers, nil or not, onto a row of one's own. -/
import Derived.Test.YtkocmjmmflphnaaGreatDoorBase
import Derived.Laws.AppendOwnNone
namespace Go.Proofs.YtkocmjmmflphnaaGreatDoor
open Go.RowKit

theorem grown_refl (w : World) (b : Option Nat) : w.grownBy w b := ⟨rfl, rfl, rfl, Nat.le_refl _, fun _ _ _ => rfl⟩
/-- A list of numbers as cells. -/
def cellsOf (k : IntKind) (xs : List Nat) : List Value := xs.map fun (x : Nat) => Value.int k (x : Int)
theorem cellsOf_append (k : IntKind) (xs ys : List Nat) : cellsOf k (xs ++ ys) = cellsOf k xs ++ cellsOf k ys := by simp [cellsOf]
theorem wpList_append_sl {P : Program} {w : World} {ops : Array Oper} {rest : List Oper} {o : Oper} {a : Act} {Q : Exit → Act → World → Prop} (hgd : o.guard = none) (s x : Operand) (t : TypeId)
    (ho : o.op = .call { callee := .builtin .append, args := #[s, x], argTypes := #[t, t] })
    (base : Nat) (e : TypeId) (i : TypeInfo) (z : Value) (bytes : Nat) (ht : P.underlying t = some (.slice e)) (hi : P.info? e = some i) (hz : i.zero = some z)
    (hsize : i.size = 1) (hby : i.bytes = bytes) (hzs : z.cells.size = 1)
    (v : Value) (n : Nat) (ys : List Value) (hs : a.eval s = v) (hown : w.ownsRow base e 1 v n ys)
    (k : IntKind) (sv : Value) (xs : List Nat) (hx : a.eval x = sv) (hsl : Sl k w sv xs)
    (h63 : n + xs.length ≤ maxLen) (hbytes : (n + xs.length) * bytes ≤ 140737488355328) (hbase : base ≤ w.heap.size)
    (h : ∀ v' w', w'.ownsRow base e 1 v' (n + xs.length) (ys ++ cellsOf k xs) → w.grownBy w' v.ownBlock → wpList P ops Q rest (a.put o.dst v') w') : wpList P ops Q (o :: rest) a w := by
  obtain ⟨hm, ao, cap, hv, hc, hh⟩ := hsl
  cases ao with
  | none =>
    rcases hh with ⟨h1, h2⟩ | ⟨b, off, h1, _⟩
    · subst h1
      have := h2 rfl
      subst this
      refine wpList_append_own_none hgd s x t ho base e i 1 ht hi v n ys hs hown (by rw [hx, hv]; rfl) (h v w ?_ (grown_refl w _))
      simpa [cellsOf] using hown
    · cases h1
  | some ad =>
    refine wpList_append_own _ hgd s x t ho base e i z 1 bytes ht hi hz hsize hby hzs (by decide) v n ys hs hown ad xs.length cap (cellsOf k xs) (by rw [hx, hv]) (by simp [cellsOf]) ?_ ?_ h63 hbytes hbase (fun v' w' h1 h2 _ => h v' w' h1 h2)
    · intro j u hu
      have hj : j < xs.length := by simpa [cellsOf] using (List.getElem?_eq_some_iff.1 hu).1
      rcases hh with ⟨h1, _⟩ | ⟨b, off, h1, hb, hcell⟩
      · rw [h1] at hj; exact absurd hj (by simp)
      · obtain rfl := Option.some.inj h1
        rw [Addr.add_lit, hcell j hj, limb_lt hj]
        simpa [cellsOf, hj] using hu
    · intro u hu
      obtain ⟨_, _, rfl⟩ := List.mem_map.1 hu
      rfl
end Go.Proofs.YtkocmjmmflphnaaGreatDoor
