/- What the bound on all arguments together says of one string. -/
import Derived.Test.YtimmjamackjkiaaDoorUBulk
namespace Go.Proofs.YtimmjamackjkiaaDoor
open Go

theorem bulk_string {H : Type} {l : List (DataW H)} (hk : Rows.uptoSmall H l = true) {s : ByteArray} (hd : DataW.lit (.string s.data.toList) ∈ l) : s.size ≤ 1048576 := by
  have hb : Rows.uptoBulkAll l ≤ 1048576 := by
    unfold Rows.uptoSmall at hk
    exact of_decide_eq_true hk
  have h1 := bulk_mem hd
  have h2 : s.data.toList.length = s.size := by simp
  simp only [Rows.uptoBulk] at h1
  omega
end Go.Proofs.YtimmjamackjkiaaDoor
