/- num.look and what it answers. -/
import Derived.Test.YtkocmjmmflphnaaDoorBase
namespace Go.Proofs.YtkocmjmmflphnaaDoor
open Go.RowKit

theorem Lb.wide {xs : List Nat} (h : Lb xs) (i : Nat) : limb xs i < 4294967296 := by have := h i; omega

theorem infoU32 : (Tryd.prog.info? 61).map (fun i => (i.zero, i.size, i.bytes)) = some (some (.int .u32 0), 1, 4) := by kernel_rfl

end Go.Proofs.YtkocmjmmflphnaaDoor
