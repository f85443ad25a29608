/- Blocks known whole, and numbers that stay as they are. -/
import Derived.Test.YtgcnjkabpcbkgaaBase
namespace Go.Proofs.Ytgcnjkabpcbkgaa
open Go.RowKit

theorem late_blk {W W' : World} {C : Array Value} {t : TypeId} (x : Ext (W.alloc (.cells C t (0, 0))) W') : W'.heap[W.heap.size]? = some (.cells C t (0, 0)) :=
  box1 (x.mono (by rw [size_alloc]; omega))
theorem blk_later {W W' : World} {g : Nat} {O : Obj} (h : W.heap[g]? = some O) (x : Ext W W') : W'.heap[g]? = some O := (x.block g (blk_lt h)).trans h
theorem blk_alloc {W : World} {g : Nat} {O : Obj} (h : W.heap[g]? = some O) (o : Obj) : (W.alloc o).heap[g]? = some O := (get_alloc_old (blk_lt h)).trans h
theorem wrapN (x : Int) (h1 : -9223372036854775808 ≤ x) (h2 : x ≤ 9223372036854775807) : IntKind.i64.wrap x = x := by
  simp [IntKind.wrap, IntKind.bits, IntKind.signed]; omega
theorem wrapU (x : Int) (h1 : 0 ≤ x) (h2 : x ≤ 18446744073709551615) : IntKind.u64.wrap x = x := by
  simp [IntKind.wrap, IntKind.bits, IntKind.signed]; omega
theorem wrapB (x : Int) (h1 : 0 ≤ x) (h2 : x ≤ 255) : IntKind.u8.wrap x = x := by
  simp [IntKind.wrap, IntKind.bits, IntKind.signed]; omega
theorem wrapM (x : Int) : IntKind.u64.wrap x = x % 18446744073709551616 := by
  simp [IntKind.wrap, IntKind.bits, IntKind.signed]
end Go.Proofs.Ytgcnjkabpcbkgaa
