/- The library's contracts at this dump, and utf8.DecodeRune's. No walk here. -/
import Derived.Test.YtbfcbicbeagjkaaGreatDoorShelfN
import Derived.Shelf.Spec.DecodeRune
namespace Go.Proofs
open Go.Shelf
def Tryz.laysDR_ren : Go.Shelf.Ren := ⟨fun | 32 => 234 | 49 => 244 | n => n, fun | 30 => 80 | 21 => 21 | 3 => 3 | 0 => 0 | 5 => 5 | 4 => 4 | 33 => 274 | 66 => 289 | 25 => 189 | 69 => 292 | 68 => 291 | n => n, fun | 2 => 1 | 3 => 2 | n => n⟩
theorem Tryz.laysDR : Go.Proofs.Lays7.n32 Tryz.prog Tryz.laysDR_ren := {
  mixed := by kernel_rfl
  f32 := Tryz.func234.trans (congrArg some (by kernel_rfl))
  f49 := Tryz.func244.trans (congrArg some (by kernel_rfl))
  t0 := Tryz.underlying0
  a0 := Tryz.isAgg0
  z0 := Tryz.sizeOf0
  v0 := Tryz.zeroValue0
  i0 := by kernel_rfl
  t3 := Tryz.underlying3
  a3 := Tryz.isAgg3
  z3 := Tryz.sizeOf3
  v3 := Tryz.zeroValue3
  i3 := by kernel_rfl
  t4 := Tryz.underlying4
  a4 := Tryz.isAgg4
  z4 := Tryz.sizeOf4
  v4 := Tryz.zeroValue4
  i4 := by kernel_rfl
  t5 := Tryz.underlying5
  a5 := Tryz.isAgg5
  z5 := Tryz.sizeOf5
  v5 := Tryz.zeroValue5
  i5 := by kernel_rfl
  t21 := Tryz.underlying21
  a21 := Tryz.isAgg21
  z21 := Tryz.sizeOf21
  v21 := Tryz.zeroValue21
  i21 := by kernel_rfl
  t25 := Tryz.underlying189
  a25 := Tryz.isAgg189
  z25 := Tryz.sizeOf189
  v25 := Tryz.zeroValue189
  i25 := by kernel_rfl
  t30 := Tryz.underlying80
  a30 := Tryz.isAgg80
  z30 := Tryz.sizeOf80
  v30 := Tryz.zeroValue80
  i30 := by kernel_rfl
  t33 := Tryz.underlying274
  a33 := Tryz.isAgg274
  z33 := Tryz.sizeOf274
  v33 := Tryz.zeroValue274
  i33 := by kernel_rfl
  t66 := Tryz.underlying289
  a66 := Tryz.isAgg289
  z66 := Tryz.sizeOf289
  t68 := Tryz.underlying291
  a68 := Tryz.isAgg291
  z68 := Tryz.sizeOf291
  v68 := Tryz.zeroValue291
  i68 := by kernel_rfl
  t69 := Tryz.underlying292
  a69 := Tryz.isAgg292
  z69 := Tryz.sizeOf292
  v69 := Tryz.zeroValue292
  i69 := by kernel_rfl
  g2 := by kernel_rfl
  g3 := by kernel_rfl }
end Go.Proofs
