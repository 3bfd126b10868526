/- num.Parse -/
import Derived.Test.YtommakdomnaclaaDoorParsePlus
import Derived.Test.YtommakdomnaclaaDoorParseBare
namespace Go.Proofs.YtommakdomnaclaaDoor
open Go.RowKit

set_option maxRecDepth 100000 in
set_option maxHeartbeats 2000000 in
theorem parse_any (s : ByteArray) (w : World) (hs : s.size ≤ 100000000) :
    Calls Tryd.prog 24 #[.string s] w (PPost s w) := by
  rcases Nat.eq_zero_or_pos s.size with h0 | h0
  · have hno : ¬ okA s := fun h => by have := h.1; omega
    have HNO := Lib.hid hno
    have hb0 := below1 w (.cells #[.bool false, .slice none 0 0] 24)
    have k1 := list_nil h0
    obtain ⟨k1, k2⟩ := k1
    clear hno h0
    go_enter Tryd.func24, Tryd.ntmps24
    go_wp2
    refine bodyPost_ret (v := .tuple #[.agg #[.bool false, .slice none 0 0], .bool false]) (by simp [results, Tryd.results24, go_sem]) rfl ?_
    first
      | exact PPost.no ⟨_, rfl, Sl.nil _ _⟩ ((hb0.setCell (Nat.le_refl _) _).setCell (Nat.le_refl _) _) HNO.out
      | exact PPost.no ⟨_, rfl, Sl.nil _ _⟩ hb0 HNO.out
  · by_cases h1 : bt s 0 = 45
    · exact parse_minus s w hs h0 h1
    by_cases h2 : bt s 0 = 43
    · exact parse_plus s w hs h0 h2
    · exact parse_bare s w hs h0 h2 h1
end Go.Proofs.YtommakdomnaclaaDoor
