/- num.look and what it answers. -/
import Derived.Test.YtkocmjmmflphnaaGreatDoorBase
namespace Go.Proofs.YtkocmjmmflphnaaGreatDoor
open Go.RowKit

theorem Lb.wide {xs : List Nat} (h : Lb xs) (i : Nat) : limb xs i < 4294967296 := by have := h i; omega

theorem infoU32 : (Tryz.prog.info? 82).map (fun i => (i.zero, i.size, i.bytes)) = some (some (.int .u32 0), 1, 4) := by kernel_rfl

end Go.Proofs.YtkocmjmmflphnaaGreatDoor
