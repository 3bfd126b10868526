/- law07's built: two stores that are alike. -/
import Derived.Test.YtioidaojnbenbaaRsMake
import Derived.Test.YtioidaojnbenbaaStOpM
import Derived.Laws.AppendOwnNone
namespace Go.Proofs.Ytioidaojnbenbaa
open Go.RowKit

theorem goesV_appendR {P : Program} {w : World} {o : Oper} {a : Act} {K : Value → World → Prop} {Q : Exit → Act → World → Prop} (s x : Operand) (t : TypeId)
    (ho : o.op = .call { callee := .builtin .append, args := #[s, x], argTypes := #[t, t] })
    (base : Nat) (e : TypeId) (i : TypeInfo) (z : Value) (size bytes : Nat) (ht : P.underlying t = some (.slice e)) (hi : P.info? e = some i) (hz : i.zero = some z)
    (hsize : i.size = size) (hby : i.bytes = bytes) (hzs : z.cells.size = size) (hsz : 0 < size)
    (v : Value) (n : Nat) (xs : List Value) (hs : a.eval s = v) (hown : w.ownsRow base e size v n xs)
    (y : Value) (m : Nat) (news : List Value) (hx : a.eval x = y) (hrow : RowV w y m size news) (h1 : ∀ u ∈ news, u.oneCell' = true)
    (h63 : n + m ≤ maxLen) (hbytes : (n + m) * bytes ≤ 140737488355328) (hbase : base ≤ w.heap.size)
    (h : ∀ v' w', w'.ownsRow base e size v' (n + m) (xs ++ news) → w.grownBy w' v.ownBlock → MovedTo w v v' → K v' w') : o.wp P a w (fun a' w' => ∃ v, a' = a.put o.dst v ∧ K v w') Q := by
  obtain ⟨hlen, _, ao, cap, rfl, hcap, hr⟩ := hrow
  cases ao with
  | none =>
    have h0 : m = 0 ∧ cap = 0 := by
      rcases hr with ⟨h0, h2⟩ | ⟨b, off, h2, _⟩
      · exact ⟨h0, h2 rfl⟩
      · cases h2
    obtain ⟨rfl, rfl⟩ := h0
    have hn : news = [] := List.eq_nil_of_length_eq_zero (by simpa using hlen)
    subst hn
    have hrun := run_append_owned_none (P := P) (w := w) base t o.type e i size ht hi v n xs hown
    unfold Oper.wp
    simp [execOp, ho, resolve, invoke, builtin, hs, hx, hrun, Result.andThen]
    exact ⟨v, rfl, h v w (by simpa using hown) ⟨rfl, rfl, rfl, Nat.le_refl _, fun _ _ _ => rfl⟩ (.inl rfl)⟩
  | some ad =>
    refine goesV_append s x t ho base e i z size bytes ht hi hz hsize hby hzs hsz v n xs hs hown ad m cap news hx hlen ?_ h1 h63 hbytes hbase h
    intro j u hu
    have hj := (List.getElem?_eq_some_iff.1 hu).1
    rcases hr with ⟨h0, _⟩ | ⟨b, off, e1, _, hc⟩
    · subst h0
      simp at hlen
      subst hlen
      simp at hj
    · injection e1 with e1
      subst e1
      rw [Addr.add_mid]
      exact hc j u hu

/-- A store and a list, made since w0, that lie apart. -/
structure Two (w0 w : World) (gs gm : Nat) (R Q : Nat → Nat) (s t : St) : Prop where
  st : StQ w0 w gs R s
  rs : RsW w gm Q t
  dj : ∀ b, Q b ≠ 0 → R b = 0
  lo : ∀ b, Q b ≠ 0 → w0.heap.size ≤ b
theorem Two.below {w0 w w' : World} {gs gm : Nat} {R Q : Nat → Nat} {s t : St} (h : Two w0 w gs gm R Q s t) (hb : Below w.heap.size w w') : Two w0 w' gs gm R Q s t := ⟨h.st.below hb, h.rs.below hb, h.dj, h.lo⟩
theorem Two.step {w0 w w' : World} {gs gm : Nat} {R Q : Nat → Nat} {s s' t : St} (h : Two w0 w gs gm R Q s t) (hp : QPost w0 w gs R s' w') : ∃ R', Two w0 w' gs gm R' Q s' t := by
  obtain ⟨R', h1, h2, h3⟩ := hp
  exact ⟨R', h1, h.rs.keep (h2.keeps.mono fun b _ hq => h.dj b hq), fun b hq => (h3 b (h.rs.lt b hq)).2 (h.dj b hq), h.lo⟩
theorem Two.rstep {w0 w w' : World} {gs gm : Nat} {R Q : Nat → Nat} {s t t' : St} (h : Two w0 w gs gm R Q s t) (hp : RsP w gm Q t' w') : ∃ Q', Two w0 w' gs gm R Q' s t' := by
  obtain ⟨Q', h1, h2, h3⟩ := hp
  refine ⟨Q', ⟨h.st.st.keep (h2.keeps.mono fun b _ hr => Classical.byContradiction fun hq => hr (h.dj b hq)), h.st.bel.trans (h2.below h.st.bel.size h.lo), h.st.lo⟩, h1, fun b hq => ?_, fun b hq => ?_⟩
  · rcases Nat.lt_or_ge b w.heap.size with hl | hl
    · exact h.dj b fun h0 => hq ((h3 b hl).2 h0)
    · exact h.st.new_zero hl
  · rcases Nat.lt_or_ge b w.heap.size with hl | hl
    · exact h.lo b fun h0 => hq ((h3 b hl).2 h0)
    · exact Nat.le_trans h.st.bel.size hl
def MkPo (w0 : World) (gs gm : Nat) (Q : Nat → Nat) (t s' : St) (W : World) : Prop := ∃ R', Two w0 W gs gm R' Q s' t
def RkPo (w0 : World) (gs gm : Nat) (R : Nat → Nat) (s t' : St) (W : World) : Prop := ∃ Q', Two w0 W gs gm R Q' s t'
theorem two_new {w0 w : World} {gs : Nat} {R : Nat → Nat} {s : St} {L : Nat} (h : StQ w0 w gs R s) (hL : L ≤ 1048576) : Two w0 (w.alloc (.cells #[.int .i64 (L : Nat), .int .i64 0, .slice none 0 0, .slice none 0 0] 32)) gs w.heap.size R (Rnew w.heap.size) s (St.new L) :=
  ⟨h.alloc _, rsw_new w L hL, fun b hb => by rw [Rnew_ne hb]; exact h.new_zero (Nat.le_refl _), fun b hb => by rw [Rnew_ne hb]; exact h.bel.size⟩

end Go.Proofs.Ytioidaojnbenbaa
