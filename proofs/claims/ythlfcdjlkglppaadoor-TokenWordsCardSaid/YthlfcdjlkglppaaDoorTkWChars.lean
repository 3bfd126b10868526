/- The statements' own chars: a text's characters. -/
import Derived.Test.YthlfcdjlkglppaaDoorTkWAll
import Derived.Test.YthlfcdjlkglppaaDoorTkRAtom
namespace Go.Proofs.YthlfcdjlkglppaaDoor
open Go.RowKit

set_option maxRecDepth 100000 in
set_option maxHeartbeats 2000000 in
theorem lchars_any (s : ByteArray) (w : World) (hs : s.size ≤ 100000000) :
    Calls Tryd.prog 12 #[.string s] w fun e w' => ∃ v, e = .returned v ∧ Sl .i64 w' v (chA (byt s)).1 ∧ Below w.heap.size w w' := by
  have HSZ := Lib.hid hs; clear hs
  go_enter Tryd.func12, Tryd.ntmps12
  have hconv := run_bytes_of_string (P := Tryd.prog) w 9 44 5 s Tryd.underlying9 Tryd.underlying44 Tryd.underlying5
  have hcap := grownCap_ge w s.size 0 5
  go_wp2_with fail
  generalize hG : grownCap w s.size 0 5 = cap at *
  have hsl := row_slS (w := w) (e := 5) (W := (w.alloc (Obj.cells (bytesRow s cap) 5 ((bytesRow s cap).size, (bytesRow s cap).size + 1))).drew) (heap_alloc_new w _) hcap (by have := HSZ.out; omega)
  have hbq : Below w.heap.size w ((w.alloc (Obj.cells (bytesRow s cap) 5 ((bytesRow s cap).size, (bytesRow s cap).size + 1))).drew) := (below1 w _).drew
  refine (rchars_any _ (byt s) _ hsl (byt_by s) (by rw [byt_len]; have := HSZ.out; omega)).mono ?_
  rintro e w4 ⟨v, rfl, hv, hb⟩
  have hb4 : Below w.heap.size w w4 := hbq.trans (hb.mono (by simp))
  have HV := Lib.hid hv
  clear hsl hbq hb hconv hG hcap hv
  go_wp2_with fail
  go_ret
  exact ⟨v, rfl, HV.out, hb4⟩
end Go.Proofs.YthlfcdjlkglppaaDoor
