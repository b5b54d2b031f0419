/- The reference's Join: its contract. -/
import Derived.Test.YtcognpfihojphaaKC8

namespace Go.Proofs.Ytcognpfihojphaa.K
open Go.RowKit

theorem zero46 : (Try.prog.info? 70).map (fun i => (i.zero, i.size)) = some (some (.agg (bc fun _ => false)), 256) := by kernel_rfl

theorem step_bk {W w' : World} {g : Nat} {f : Nat → Bool} (h : Hid (BK W g f)) (hb : Below W.heap.size W w') : Hid (BK w' g f) := h.out.below hb h.out.lt
end Go.Proofs.Ytcognpfihojphaa.K
