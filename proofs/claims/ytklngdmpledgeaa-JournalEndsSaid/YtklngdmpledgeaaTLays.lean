/-
  DERIVED: THE SHELF's CONTRACTS AT THIS DUMP, IN PLAIN WORDS (tools/lay-plain.mjs out of 'YtklngdmpledgeaaTLays.lean', which tools/lay-shelf.mjs wrote): THE SAME DECLARATIONS UNDER THE SAME NAMES: 'import', 'namespace', 'open', 'def', 'theorem' AND NOTHING ELSE: no command of the shelf's: FOR A HAND-IN. Each laying: the table of numbers ('.._ren') and one theorem, a field a fact of the dump's own or the kernel's comparison; each contract: ONE APPLICATION.
-/
import Derived.Shelf.SlGeneric
import Derived.Shelf.SlSortCmp.KitK
import Derived.Shelf.SlicesE.Clone
import Derived.Ground.SlsfProg
import Derived.Ground.SlgnProg
import Derived.Test.YtklngdmpledgeaaProg
namespace Go.Proofs
open Go.Shelf
def Try.insLaysIb_ren : Go.Shelf.Ren := ⟨fun | 20 => 189 | n => n, fun | 24 => 122 | 22 => 126 | 3 => 3 | 25 => 195 | 4 => 4 | 0 => 0 | n => n, fun | n => n⟩
theorem Try.insLaysIb : Go.Proofs.SlLaysF0.n20 Try.prog Try.insLaysIb_ren := {
  mixed := by kernel_rfl
  f20 := ⟨Try.f189.name, by decide, Try.func189.trans (congrArg some (by kernel_rfl))⟩
  t0 := Try.underlying0
  a0 := Try.isAgg0
  z0 := Try.sizeOf0
  v0 := Try.zeroValue0
  t3 := Try.underlying3
  a3 := Try.isAgg3
  z3 := Try.sizeOf3
  v3 := Try.zeroValue3
  t4 := Try.underlying4
  a4 := Try.isAgg4
  z4 := Try.sizeOf4
  v4 := Try.zeroValue4
  t22 := Try.underlying126
  a22 := Try.isAgg126
  z22 := Try.sizeOf126
  v22 := Try.zeroValue126
  t25 := Try.underlying195
  a25 := Try.isAgg195
  z25 := Try.sizeOf195
  v25 := Try.zeroValue195 }
def Try.cloneLaysIb_ren : Go.Shelf.Ren := ⟨fun | 41 => 115 | n => n, fun | 22 => 126 | 23 => 122 | 4 => 4 | n => n, fun | n => n⟩
theorem Try.cloneLaysIb : Go.Proofs.SlLaysE0.n41 Try.prog Try.cloneLaysIb_ren := {
  mixed := by kernel_rfl
  f41 := ⟨Try.f115.name, by decide, Try.func115.trans (congrArg some (by kernel_rfl))⟩
  t4 := Try.underlying4
  a4 := Try.isAgg4
  z4 := Try.sizeOf4
  v4 := Try.zeroValue4
  t22 := Try.underlying126
  a22 := Try.isAgg126
  z22 := Try.sizeOf126
  v22 := Try.zeroValue126 }
end Go.Proofs
