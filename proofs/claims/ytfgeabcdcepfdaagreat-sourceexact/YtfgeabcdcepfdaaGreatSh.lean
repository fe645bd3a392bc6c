/- What the library's contracts are handed of this program: tables of numbers, and facts that the kernel compares. Printed by program. -/
import Derived.Shelf.SlSortCmp.Xorshift
import Derived.Test.YtfgeabcdcepfdaaGreatProg
namespace Go.Proofs.YtfgeabcdcepfdaaGreat
open Go.Shelf

def lays15_ren : Go.Shelf.Ren := ⟨fun | 15 => 41 | 28 => 54 | 29 => 55 | n => n, fun | 39 => 34 | 3 => 3 | 53 => 98 | 55 => 35 | 4 => 4 | 5 => 5 | 9 => 9 | n => n, fun | n => n⟩

theorem lays15 : Go.Proofs.SlLaysF0.n15 Tryz.prog lays15_ren := {
  mixed := by kernel_rfl
  f15 := Tryz.func41.trans (congrArg some (by kernel_rfl))
  f28 := Tryz.func54.trans (congrArg some (by kernel_rfl))
  f29 := Tryz.func55.trans (congrArg some (by kernel_rfl))
  t3 := Tryz.underlying3
  a3 := Tryz.isAgg3
  z3 := Tryz.sizeOf3
  v3 := Tryz.zeroValue3
  t4 := Tryz.underlying4
  a4 := Tryz.isAgg4
  z4 := Tryz.sizeOf4
  v4 := Tryz.zeroValue4
  t5 := Tryz.underlying5
  a5 := Tryz.isAgg5
  z5 := Tryz.sizeOf5
  v5 := Tryz.zeroValue5
  t9 := Tryz.underlying9
  a9 := Tryz.isAgg9
  z9 := Tryz.sizeOf9
  v9 := Tryz.zeroValue9
  t39 := Tryz.underlying34
  a39 := Tryz.isAgg34
  z39 := Tryz.sizeOf34
  v39 := Tryz.zeroValue34
  t53 := Tryz.underlying98
  a53 := Tryz.isAgg98
  z53 := Tryz.sizeOf98
  v53 := Tryz.zeroValue98
  t55 := Tryz.underlying35
  a55 := Tryz.isAgg35
  z55 := Tryz.sizeOf35
  v55 := Tryz.zeroValue35 }

def lays47_ren : Go.Shelf.Ren := ⟨fun | 47 => 62 | 15 => 41 | 28 => 54 | 29 => 55 | n => n, fun | 3 => 3 | 39 => 34 | 53 => 98 | 55 => 35 | 4 => 4 | 5 => 5 | 9 => 9 | n => n, fun | n => n⟩

theorem lays47 : Go.Proofs.SlLaysF0.n47 Tryz.prog lays47_ren := {
  mixed := by kernel_rfl
  f15 := Tryz.func41.trans (congrArg some (by kernel_rfl))
  f28 := Tryz.func54.trans (congrArg some (by kernel_rfl))
  f29 := Tryz.func55.trans (congrArg some (by kernel_rfl))
  f47 := Tryz.func62.trans (congrArg some (by kernel_rfl))
  t3 := Tryz.underlying3
  a3 := Tryz.isAgg3
  z3 := Tryz.sizeOf3
  v3 := Tryz.zeroValue3
  t4 := Tryz.underlying4
  a4 := Tryz.isAgg4
  z4 := Tryz.sizeOf4
  v4 := Tryz.zeroValue4
  t5 := Tryz.underlying5
  a5 := Tryz.isAgg5
  z5 := Tryz.sizeOf5
  v5 := Tryz.zeroValue5
  t9 := Tryz.underlying9
  a9 := Tryz.isAgg9
  z9 := Tryz.sizeOf9
  v9 := Tryz.zeroValue9
  t39 := Tryz.underlying34
  a39 := Tryz.isAgg34
  z39 := Tryz.sizeOf34
  v39 := Tryz.zeroValue34
  t53 := Tryz.underlying98
  a53 := Tryz.isAgg98
  z53 := Tryz.sizeOf98
  v53 := Tryz.zeroValue98
  t55 := Tryz.underlying35
  a55 := Tryz.isAgg35
  z55 := Tryz.sizeOf35
  v55 := Tryz.zeroValue35 }

def lays48_ren : Go.Shelf.Ren := ⟨fun | 48 => 63 | n => n, fun | 76 => 119 | 55 => 35 | 0 => 0 | 66 => 104 | 39 => 34 | n => n, fun | n => n⟩

theorem lays48 : Go.Proofs.SlLaysF0.n48 Tryz.prog lays48_ren := {
  mixed := by kernel_rfl
  f48 := Tryz.func63.trans (congrArg some (by kernel_rfl))
  t0 := Tryz.underlying0
  a0 := Tryz.isAgg0
  z0 := Tryz.sizeOf0
  v0 := Tryz.zeroValue0
  t39 := Tryz.underlying34
  a39 := Tryz.isAgg34
  z39 := Tryz.sizeOf34
  v39 := Tryz.zeroValue34
  t55 := Tryz.underlying35
  a55 := Tryz.isAgg35
  z55 := Tryz.sizeOf35
  v55 := Tryz.zeroValue35
  t66 := Tryz.underlying104
  a66 := Tryz.isAgg104
  z66 := Tryz.sizeOf104
  v66 := Tryz.zeroValue104
  t76 := Tryz.underlying119
  a76 := Tryz.isAgg119
  z76 := Tryz.sizeOf119
  v76 := Tryz.zeroValue119 }
end Go.Proofs.YtfgeabcdcepfdaaGreat
