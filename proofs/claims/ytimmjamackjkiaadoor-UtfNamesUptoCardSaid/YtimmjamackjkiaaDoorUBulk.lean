/- What the bound on all arguments together says of one slice. -/
import Derived.Test.YtimmjamackjkiaaDoorRows
namespace Go.Proofs.YtimmjamackjkiaaDoor
open Go

theorem bulk_pos {H : Type} (d : DataW H) : 1 ≤ Rows.uptoBulk d := by
  rcases d with l | _ | _ | ⟨_, _⟩ | _ | ⟨_, _⟩ | _ | _
  · cases l <;> simp [Rows.uptoBulk]
  all_goals simp [Rows.uptoBulk]
theorem bulk_len {H : Type} : ∀ l : List (DataW H), l.length ≤ Rows.uptoBulkAll l
  | [] => by simp
  | d :: l => by
    have h1 := bulk_len l
    have h2 := bulk_pos d
    simp only [List.length_cons, Rows.uptoBulkAll]
    omega
theorem bulk_mem {H : Type} {d : DataW H} : ∀ {l : List (DataW H)}, d ∈ l → Rows.uptoBulk d ≤ Rows.uptoBulkAll l
  | [], h => by cases h
  | x :: l, h => by
    simp only [Rows.uptoBulkAll]
    rcases List.mem_cons.1 h with rfl | h
    · omega
    · have := bulk_mem h
      omega
theorem bulk_bytes {H : Type} {l : List (DataW H)} (hk : Rows.uptoSmall H l = true) {d : DataW H} (hd : d ∈ l) {xs : List Nat} (h : xs = [] ∨ ∃ el sp, d = .slice el sp ∧ el.length = xs.length) : xs.length ≤ 1048576 := by
  have hb : Rows.uptoBulkAll l ≤ 1048576 := by
    unfold Rows.uptoSmall at hk
    exact of_decide_eq_true hk
  rcases h with rfl | ⟨el, sp, rfl, hl⟩
  · simp
  · have h1 := bulk_mem hd
    have h2 := bulk_len el
    simp only [Rows.uptoBulk] at h1
    omega
end Go.Proofs.YtimmjamackjkiaaDoor
