/- The library's maps.Keys at map[int]struct{} and slices.BinarySearch at []int: the shelf's contracts laid at this program's numbers. -/
import Derived.Shelf.SlIterI.Nil
import Derived.Shelf.Slices.SearchI
import Derived.Shelf.Slices.Empties
import Derived.Ground.GgzProg
import Derived.Ground.Names2Prog
import Derived.Test.YtfamocfhonhcgaaGreatDoorProg
namespace Go.Proofs
open Go.Shelf
def Tryz.keysE_ren : Go.Shelf.Ren := ⟨fun | 7 => 163 | 10 => 202 | n => n, fun | 23 => 56 | 26 => 3 | 3 => 175 | 28 => 150 | 0 => 0 | 27 => 149 | 33 => 103 | 4 => 4 | n => n, fun | n => n⟩
theorem Tryz.keysE : Go.Proofs.SlLaysZI.n7 Tryz.prog Tryz.keysE_ren := {
  mixed := by kernel_rfl
  f7 := ⟨Tryz.f163.name, by decide, Tryz.func163.trans (congrArg some (by kernel_rfl))⟩
  f10 := ⟨Tryz.f202.name, by decide, Tryz.func202.trans (congrArg some (by kernel_rfl))⟩
  t0 := Tryz.underlying0
  a0 := Tryz.isAgg0
  z0 := Tryz.sizeOf0
  v0 := Tryz.zeroValue0
  t4 := Tryz.underlying4
  a4 := Tryz.isAgg4
  z4 := Tryz.sizeOf4
  v4 := Tryz.zeroValue4
  t23 := Tryz.underlying56
  a23 := Tryz.isAgg56
  z23 := Tryz.sizeOf56
  v23 := Tryz.zeroValue56
  t26 := Tryz.underlying3
  a26 := Tryz.isAgg3
  z26 := Tryz.sizeOf3
  v26 := Tryz.zeroValue3
  t27 := Tryz.underlying149
  a27 := Tryz.isAgg149
  z27 := Tryz.sizeOf149
  v27 := Tryz.zeroValue149
  t28 := Tryz.underlying150
  a28 := Tryz.isAgg150
  z28 := Tryz.sizeOf150
  v28 := Tryz.zeroValue150
  t33 := Tryz.underlying103
  a33 := Tryz.isAgg103
  z33 := Tryz.sizeOf103
  v33 := Tryz.zeroValue103 }
def Tryz.searchA_ren : Go.Shelf.Ren := ⟨fun | 25 => 164 | 31 => 203 | 32 => 204 | 37 => 256 | n => n, fun | 22 => 75 | 3 => 3 | 4 => 4 | 40 => 230 | 0 => 0 | n => n, fun | n => n⟩
theorem Tryz.searchA : Go.Proofs.Lays2.n25 Tryz.prog Tryz.searchA_ren := {
  mixed := by kernel_rfl
  f25 := Tryz.func164.trans (congrArg some (by kernel_rfl))
  f31 := Tryz.func203.trans (congrArg some (by kernel_rfl))
  f32 := Tryz.func204.trans (congrArg some (by kernel_rfl))
  f37 := Tryz.func256.trans (congrArg some (by kernel_rfl))
  t0 := Tryz.underlying0
  a0 := Tryz.isAgg0
  z0 := Tryz.sizeOf0
  v0 := Tryz.zeroValue0
  t3 := Tryz.underlying3
  a3 := Tryz.isAgg3
  z3 := Tryz.sizeOf3
  v3 := Tryz.zeroValue3
  t4 := Tryz.underlying4
  a4 := Tryz.isAgg4
  z4 := Tryz.sizeOf4
  v4 := Tryz.zeroValue4
  t22 := Tryz.underlying75
  a22 := Tryz.isAgg75
  z22 := Tryz.sizeOf75
  v22 := Tryz.zeroValue75
  t40 := Tryz.underlying230
  a40 := Tryz.isAgg230
  z40 := Tryz.sizeOf230
  v40 := Tryz.zeroValue230 }
end Go.Proofs
