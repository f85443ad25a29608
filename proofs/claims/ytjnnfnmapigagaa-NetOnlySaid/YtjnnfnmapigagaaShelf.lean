/- The library's contracts that this seat's texts use, laid by the kit's own tool in its plain words. -/
import Derived.Shelf.SlicesE.Delete
import Derived.Test.YtjnnfnmapigagaaProg
namespace Go.Proofs
open Go.Shelf
def Try.del39_ren : Go.Shelf.Ren := ⟨fun | 45 => 39 | n => n, fun | 22 => 73 | 23 => 57 | 3 => 3 | 4 => 4 | 0 => 0 | n => n, fun | n => n⟩
theorem Try.del39 : Go.Proofs.SlLaysE.n45 Try.prog Try.del39_ren := {
  mixed := by kernel_rfl
  f45 := ⟨Try.f39.name, by decide, Try.func39.trans (congrArg some (by kernel_rfl))⟩
  t0 := Try.underlying0
  a0 := Try.isAgg0
  z0 := Try.sizeOf0
  v0 := Try.zeroValue0
  t3 := Try.underlying3
  a3 := Try.isAgg3
  z3 := Try.sizeOf3
  v3 := Try.zeroValue3
  t4 := Try.underlying4
  a4 := Try.isAgg4
  z4 := Try.sizeOf4
  v4 := Try.zeroValue4
  t22 := Try.underlying73
  a22 := Try.isAgg73
  z22 := Try.sizeOf73
  v22 := Try.zeroValue73
  a23 := Try.isAgg57
  z23 := Try.sizeOf57 }
end Go.Proofs
