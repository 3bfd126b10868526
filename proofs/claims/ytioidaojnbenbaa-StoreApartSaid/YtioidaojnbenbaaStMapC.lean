/- maps.Clone of the names' map. -/
import Derived.Test.YtioidaojnbenbaaStCopied
import Derived.Test.YtioidaojnbenbaaStNm
import Derived.Laws.Externs
namespace Go.Proofs.Ytioidaojnbenbaa
open Go.RowKit

theorem run_clone {r : Nat} {es : Array MapEntry} {clock : Nat} {w : World} (t : TypeId) (hb : w.heap[r]? = some (.map es clock)) :
    (Extern.MapsClone.clone #[.iface t (.map (some r))]).run Try.prog w = .ok (.iface t (.map (some w.heap.size))) (w.alloc (.map es clock)) := by
  have e : Extern.MapsClone.clone #[.iface t (.map (some r))] = (getObj r >>= fun o => match o with
      | .map entries clock => (newObj (.map entries clock) >>= fun n => pure (.iface t (.map (some n))))
      | _ => stuck "maps.clone: a map expected") := rfl
  rw [e]
  simp [MapKept.run_getObj_map hb, Result.andThen, go_sem]
set_option maxRecDepth 100000 in
theorem run_as_map (x : TypeId) (v : Value) (w : World) : (Instr.typeAssert (.iface 67 v) x 67 false).run Try.prog w = .ok v w := by
  simp [Instr.typeAssert, run_underlying Try.underlying67, go_sem, Result.andThen]
set_option maxRecDepth 100000 in
set_option maxHeartbeats 2000000 in
theorem mclone_any (b : Nat) (es : Array MapEntry) (clock : Nat) (w : World) (hb : w.heap[b]? = some (.map es clock)) :
    Calls Try.prog 27 #[.map (some b)] w fun e w' => e = .returned (.map (some w.heap.size)) ∧ w' = w.alloc (.map es clock) := by
  have hq := eqMapS b
  have hf : Try.prog.funcs[57]? = some Try.f57 := by kernel_rfl
  go_enter Try.func27, Try.ntmps27
  go_wp2
  rw [run_callFunc_extern hf (by kernel_rfl) (by kernel_rfl) (by kernel_rfl) (e := Extern.MapsClone.clone) (by kernel_rfl), run_clone _ hb]
  simp only [Result.andThen]
  rw [Oper.upon_value]
  go_wp2
  rw [run_as_map]
  simp only [Result.andThen]
  rw [Oper.upon_value]
  go_wp2
  go_ret
  exact ⟨rfl, rfl⟩
set_option maxRecDepth 100000 in
set_option maxHeartbeats 2000000 in
theorem mclone_nil (w : World) : Calls Try.prog 27 #[.map none] w fun e w' => e = .returned (.map none) ∧ w' = w := by
  have hq := eqMapN
  go_enter Try.func27, Try.ntmps27
  go_wp2
  go_ret
  exact ⟨rfl, rfl⟩
end Go.Proofs.Ytioidaojnbenbaa
