/- .. where the operation is guarded, and wanted. -/
import Derived.Test.YtmbhkhjoibibnaaDoorApp
namespace Go.Proofs.YtmbhkhjoibibnaaDoor
open Go.RowKit

theorem wpList_wanted {P : Program} {w : World} {ops : Array Oper} {rest : List Oper} {o : Oper} {a : Act} {Q : Exit → Act → World → Prop} (hw : Region.wanted o (yielded ops a.tmps) = true)
    (h : ∀ K : Act → World → Prop, (∀ a w, wpList P ops Q rest a w → K a w) → o.wp P a w K Q) : wpList P ops Q (o :: rest) a w :=
  wpList_step fun K hK => by rw [if_pos hw]; exact h K hK
theorem wpList_append_slg {P : Program} {w : World} {ops : Array Oper} {rest : List Oper} {o : Oper} {a : Act} {Q : Exit → Act → World → Prop} (hgd : Region.wanted o (yielded ops a.tmps) = true) (s x : Operand) (t : TypeId)
    (ho : o.op = .call { callee := .builtin .append, args := #[s, x], argTypes := #[t, t] })
    (base : Nat) (e : TypeId) (i : TypeInfo) (z : Value) (bytes : Nat) (ht : P.underlying t = some (.slice e)) (hi : P.info? e = some i) (hz : i.zero = some z)
    (hsize : i.size = 1) (hby : i.bytes = bytes) (hzs : z.cells.size = 1)
    (v : Value) (n : Nat) (ys : List Value) (hs : a.eval s = v) (hown : w.ownsRow base e 1 v n ys)
    (k : IntKind) (sv : Value) (xs : List Nat) (hx : a.eval x = sv) (hsl : Sl k w sv xs)
    (h63 : n + xs.length ≤ maxLen) (hbytes : (n + xs.length) * bytes ≤ 140737488355328) (hbase : base ≤ w.heap.size)
    (h : ∀ v' w', w'.ownsRow base e 1 v' (n + xs.length) (ys ++ cellsOf k xs) → w.grownBy w' v.ownBlock → wpList P ops Q rest (a.put o.dst v') w') : wpList P ops Q (o :: rest) a w := by
  refine wpList_wanted hgd fun K hK => ?_
  obtain ⟨hm, ao, cap, hv, hc, hh⟩ := hsl
  cases ao with
  | none =>
    rcases hh with ⟨h1, h2⟩ | ⟨b, off, h1, _⟩
    · subst h1
      have := h2 rfl
      subst this
      have hx' : a.eval x = .slice none 0 0 := by rw [hx, hv]; rfl
      have hrun := run_append_owned_none (P := P) (w := w) base t o.type e i 1 ht hi v n ys hown
      unfold Oper.wp
      simp [execOp, ho, resolve, invoke, builtin, hs, hx', hrun, Result.andThen]
      exact hK _ _ (h v w (by simpa [cellsOf] using hown) (grown_refl w _))
    · cases h1
  | some ad =>
    refine wp_append_own w s x t ho base e i z 1 bytes ht hi hz hsize hby hzs (by decide) v n ys hs hown ad xs.length cap (cellsOf k xs) (by rw [hx, hv]) (by simp [cellsOf]) ?_ ?_ h63 hbytes hbase (fun v' w' h1 h2 _ => hK _ _ (h v' w' h1 h2))
    · intro j u hu
      have hj : j < xs.length := by simpa [cellsOf] using (List.getElem?_eq_some_iff.1 hu).1
      rcases hh with ⟨h1, _⟩ | ⟨b, off, h1, hb, hcell⟩
      · rw [h1] at hj; exact absurd hj (by simp)
      · obtain rfl := Option.some.inj h1
        rw [Addr.add_lit, hcell j hj, limb_lt hj]
        simpa [cellsOf, hj] using hu
    · intro u hu
      obtain ⟨_, _, rfl⟩ := List.mem_map.1 hu
      rfl
end Go.Proofs.YtmbhkhjoibibnaaDoor
