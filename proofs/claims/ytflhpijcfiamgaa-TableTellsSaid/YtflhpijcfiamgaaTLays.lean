/-
  The library's contracts for the insertion sort and slices.Clone at this program's numbers, in plain words. Conditions: none.
-/
import Derived.Shelf.SlGeneric
import Derived.Shelf.SlSortCmp.KitK
import Derived.Shelf.SlicesE.Clone
import Derived.Ground.SlsfProg
import Derived.Ground.SlgnProg
import Derived.Test.YtflhpijcfiamgaaProg
namespace Go.Proofs
open Go.Shelf
def Try.insLaysIi_ren : Go.Shelf.Ren := ⟨fun | 20 => 90 | n => n, fun | 24 => 55 | 22 => 24 | 3 => 3 | 25 => 104 | 4 => 4 | 0 => 0 | n => n, fun | n => n⟩
theorem Try.insLaysIi : Go.Proofs.SlLaysF0.n20 Try.prog Try.insLaysIi_ren := {
  mixed := by kernel_rfl
  f20 := ⟨Try.f90.name, by decide, Try.func90.trans (congrArg some (by kernel_rfl))⟩
  t0 := Try.underlying0
  a0 := Try.isAgg0
  z0 := Try.sizeOf0
  v0 := Try.zeroValue0
  t3 := Try.underlying3
  a3 := Try.isAgg3
  z3 := Try.sizeOf3
  v3 := Try.zeroValue3
  t4 := Try.underlying4
  a4 := Try.isAgg4
  z4 := Try.sizeOf4
  v4 := Try.zeroValue4
  t22 := Try.underlying24
  a22 := Try.isAgg24
  z22 := Try.sizeOf24
  v22 := Try.zeroValue24
  t25 := Try.underlying104
  a25 := Try.isAgg104
  z25 := Try.sizeOf104
  v25 := Try.zeroValue104 }
def Try.insLaysIs_ren : Go.Shelf.Ren := ⟨fun | 20 => 93 | n => n, fun | 24 => 80 | 22 => 96 | 3 => 3 | 25 => 113 | 4 => 4 | 0 => 0 | n => n, fun | n => n⟩
theorem Try.insLaysIs : Go.Proofs.SlLaysF0.n20 Try.prog Try.insLaysIs_ren := {
  mixed := by kernel_rfl
  f20 := ⟨Try.f93.name, by decide, Try.func93.trans (congrArg some (by kernel_rfl))⟩
  t0 := Try.underlying0
  a0 := Try.isAgg0
  z0 := Try.sizeOf0
  v0 := Try.zeroValue0
  t3 := Try.underlying3
  a3 := Try.isAgg3
  z3 := Try.sizeOf3
  v3 := Try.zeroValue3
  t4 := Try.underlying4
  a4 := Try.isAgg4
  z4 := Try.sizeOf4
  v4 := Try.zeroValue4
  t22 := Try.underlying96
  a22 := Try.isAgg96
  z22 := Try.sizeOf96
  v22 := Try.zeroValue96
  t25 := Try.underlying113
  a25 := Try.isAgg113
  z25 := Try.sizeOf113
  v25 := Try.zeroValue113 }
def Try.cloneLaysIi_ren : Go.Shelf.Ren := ⟨fun | 41 => 57 | n => n, fun | 22 => 24 | 23 => 55 | 4 => 4 | n => n, fun | n => n⟩
theorem Try.cloneLaysIi : Go.Proofs.SlLaysE0.n41 Try.prog Try.cloneLaysIi_ren := {
  mixed := by kernel_rfl
  f41 := ⟨Try.f57.name, by decide, Try.func57.trans (congrArg some (by kernel_rfl))⟩
  t4 := Try.underlying4
  a4 := Try.isAgg4
  z4 := Try.sizeOf4
  v4 := Try.zeroValue4
  t22 := Try.underlying24
  a22 := Try.isAgg24
  z22 := Try.sizeOf24
  v22 := Try.zeroValue24 }
def Try.cloneLaysIs_ren : Go.Shelf.Ren := ⟨fun | 41 => 65 | n => n, fun | 22 => 96 | 23 => 80 | 4 => 4 | n => n, fun | n => n⟩
theorem Try.cloneLaysIs : Go.Proofs.SlLaysE0.n41 Try.prog Try.cloneLaysIs_ren := {
  mixed := by kernel_rfl
  f41 := ⟨Try.f65.name, by decide, Try.func65.trans (congrArg some (by kernel_rfl))⟩
  t4 := Try.underlying4
  a4 := Try.isAgg4
  z4 := Try.sizeOf4
  v4 := Try.zeroValue4
  t22 := Try.underlying96
  a22 := Try.isAgg96
  z22 := Try.sizeOf96
  v22 := Try.zeroValue96 }
end Go.Proofs
