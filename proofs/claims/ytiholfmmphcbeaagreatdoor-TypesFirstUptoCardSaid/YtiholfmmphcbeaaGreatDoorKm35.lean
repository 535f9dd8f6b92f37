import Derived.Ground.Names2Prog
import Derived.Shelf.LaysM
import Derived.Shelf.Slices.Clone
import Derived.Shelf.Slices.Empties2
import Derived.Shelf.Slices.Equal
import Derived.Shelf.Slices.Turned
import Derived.Shelf.Small.Strs
import Derived.Shelf.Strconv.Clone
import Derived.Shelf.Strings.Prefix
import Derived.Test.YtiholfmmphcbeaaGreatDoorProg
import Derived.Test.YtiholfmmphcbeaaGreatDoorKm00
namespace Go.Proofs
open Go.RowKit (zH zO zD zK zW zA zB zG)
open _root_.Go.Proofs.Tryz
open Go.Shelf
def laysM316_ren : Go.Shelf.Ren := ⟨λ | 316 => 109 | n => n, λ | 9 => 9 | 3 => 3 | 4 => 4 | 37 => 203 | 0 => 0 | 127 => 229 | 5 => 5 | n => n, λ | n => n⟩
theorem laysM316 : Go.Proofs.LaysM.n316 prog laysM316_ren := {
 mixed := by kernel_rfl
 f316 := func109.trans (congrArg some zK)
 t0 := underlying0
 a0 := isAgg0
 z0 := sizeOf0
 v0 := zeroValue0
 t3 := underlying3
 a3 := isAgg3
 z3 := sizeOf3
 v3 := zeroValue3
 t4 := underlying4
 a4 := isAgg4
 z4 := sizeOf4
 v4 := zeroValue4
 t9 := underlying9
 a9 := isAgg9
 z9 := sizeOf9
 v9 := zeroValue9
 t37 := underlying203
 a37 := isAgg203
 z37 := sizeOf203
 v37 := zeroValue203
 t127 := underlying229
 a127 := isAgg229
 z127 := sizeOf229
 v127 := zeroValue229
 t5 := underlying5
 a5 := isAgg5
 z5 := sizeOf5
 v5 := zeroValue5
 i0 := by kernel_rfl
 i3 := by kernel_rfl
 i4 := by kernel_rfl
 i5 := by kernel_rfl
 i9 := by kernel_rfl
 i37 := by kernel_rfl
 i127 := by kernel_rfl }
end Go.Proofs
