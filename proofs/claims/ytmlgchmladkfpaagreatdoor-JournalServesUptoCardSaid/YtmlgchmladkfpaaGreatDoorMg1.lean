/- The library's maps.Keys, slices.Sorted and slices.Sort at rows of ints: the shelf's contracts laid at this program's numbers. -/
import Derived.Shelf.SlIterI.Nil
import Derived.Shelf.Slices.SearchI
import Derived.Shelf.Slices.Empties
import Derived.Ground.GgzProg
import Derived.Ground.Names2Prog
import Derived.Test.YtmlgchmladkfpaaGreatDoorProg
namespace Go.Proofs
open Go.Shelf
def Tryz.keysE_ren : Go.Shelf.Ren := ⟨fun | 7 => 106 | 10 => 137 | n => n, fun | 23 => 98 | 26 => 3 | 3 => 156 | 28 => 120 | 0 => 0 | 27 => 119 | 33 => 67 | 4 => 4 | n => n, fun | n => n⟩
theorem Tryz.keysE : Go.Proofs.SlLaysZI.n7 Tryz.prog Tryz.keysE_ren := {
  mixed := by kernel_rfl
  f7 := ⟨Tryz.f106.name, by decide, Tryz.func106.trans (congrArg some (by kernel_rfl))⟩
  f10 := ⟨Tryz.f137.name, by decide, Tryz.func137.trans (congrArg some (by kernel_rfl))⟩
  t0 := Tryz.underlying0
  a0 := Tryz.isAgg0
  z0 := Tryz.sizeOf0
  v0 := Tryz.zeroValue0
  t4 := Tryz.underlying4
  a4 := Tryz.isAgg4
  z4 := Tryz.sizeOf4
  v4 := Tryz.zeroValue4
  t23 := Tryz.underlying98
  a23 := Tryz.isAgg98
  z23 := Tryz.sizeOf98
  v23 := Tryz.zeroValue98
  t26 := Tryz.underlying3
  a26 := Tryz.isAgg3
  z26 := Tryz.sizeOf3
  v26 := Tryz.zeroValue3
  t27 := Tryz.underlying119
  a27 := Tryz.isAgg119
  z27 := Tryz.sizeOf119
  v27 := Tryz.zeroValue119
  t28 := Tryz.underlying120
  a28 := Tryz.isAgg120
  z28 := Tryz.sizeOf120
  v28 := Tryz.zeroValue120
  t33 := Tryz.underlying67
  a33 := Tryz.isAgg67
  z33 := Tryz.sizeOf67
  v33 := Tryz.zeroValue67 }
def Tryz.searchA_ren : Go.Shelf.Ren := ⟨fun | 25 => 107 | 31 => 138 | 32 => 139 | 37 => 185 | n => n, fun | 22 => 55 | 3 => 3 | 4 => 4 | 40 => 171 | 0 => 0 | n => n, fun | n => n⟩
theorem Tryz.searchA : Go.Proofs.Lays2.n25 Tryz.prog Tryz.searchA_ren := {
  mixed := by kernel_rfl
  f25 := Tryz.func107.trans (congrArg some (by kernel_rfl))
  f31 := Tryz.func138.trans (congrArg some (by kernel_rfl))
  f32 := Tryz.func139.trans (congrArg some (by kernel_rfl))
  f37 := Tryz.func185.trans (congrArg some (by kernel_rfl))
  t0 := Tryz.underlying0
  a0 := Tryz.isAgg0
  z0 := Tryz.sizeOf0
  v0 := Tryz.zeroValue0
  t3 := Tryz.underlying3
  a3 := Tryz.isAgg3
  z3 := Tryz.sizeOf3
  v3 := Tryz.zeroValue3
  t4 := Tryz.underlying4
  a4 := Tryz.isAgg4
  z4 := Tryz.sizeOf4
  v4 := Tryz.zeroValue4
  t22 := Tryz.underlying55
  a22 := Tryz.isAgg55
  z22 := Tryz.sizeOf55
  v22 := Tryz.zeroValue55
  t40 := Tryz.underlying171
  a40 := Tryz.isAgg171
  z40 := Tryz.sizeOf171
  v40 := Tryz.zeroValue171 }
end Go.Proofs
