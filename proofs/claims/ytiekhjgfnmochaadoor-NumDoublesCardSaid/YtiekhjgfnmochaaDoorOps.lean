/- The operations, their answers opened. -/
import Derived.Test.YtiekhjgfnmochaaDoorEnv
import Derived.Test.YtiekhjgfnmochaaDoorAddGe
import Derived.Test.YtiekhjgfnmochaaDoorMul
namespace Go.Proofs.YtiekhjgfnmochaaDoor
open Go.RowKit

theorem add_open (n1 n2 : Bool) (s1 s2 : Value) (xs ys : List Nat) (w : World) (hs1 : Sl .u32 w s1 xs) (hs2 : Sl .u32 w s2 ys) (hx : Snd n1 xs) (hy : Snd n2 ys) :
    Calls Tryd.prog 26 #[.agg #[.bool n1, s1], .agg #[.bool n2, s2]] w (OpPost (ival n1 xs + ival n2 ys) w) := (add_any n1 n2 s1 s2 xs ys w hs1 hs2 hx hy).mono fun _ _ h => res_open h
theorem sub_open (n1 n2 : Bool) (s1 s2 : Value) (xs ys : List Nat) (w : World) (hs1 : Sl .u32 w s1 xs) (hs2 : Sl .u32 w s2 ys) (hx : Snd n1 xs) (hy : Snd n2 ys) :
    Calls Tryd.prog 28 #[.agg #[.bool n1, s1], .agg #[.bool n2, s2]] w (OpPost (ival n1 xs - ival n2 ys) w) := (sub_any n1 n2 s1 s2 xs ys w hs1 hs2 hx hy).mono fun _ _ h => res_open h
theorem mul_open (n1 n2 : Bool) (s1 s2 : Value) (xs ys : List Nat) (w : World) (hs1 : Sl .u32 w s1 xs) (hs2 : Sl .u32 w s2 ys) (hx : Snd n1 xs) (hy : Snd n2 ys) :
    Calls Tryd.prog 32 #[.agg #[.bool n1, s1], .agg #[.bool n2, s2]] w (OpPost (ival n1 xs * ival n2 ys) w) := (mul_any n1 n2 s1 s2 xs ys w hs1 hs2 hx hy).mono fun _ _ h => res_open h
end Go.Proofs.YtiekhjgfnmochaaDoor
