/- Right, every term -/
import Derived.Test.YtnaecagmcpndhaaX4A
import Derived.Test.YtnaecagmcpndhaaX4B
namespace Go.Proofs.Ytnaecagmcpndhaa
open Go.RowKit
theorem right_any : ∀ (t : Tm) (d : TD) (w : World), TR w t d → Calls Try.prog 48 #[d.val] w (Rgt w t) := by
  intro t
  induction t using Tm.ind with
  | h op f lo hi ks ih =>
  intro d w ht
  by_cases ho : op < 1 ∨ 8 < op
  · exact right_out op ho f lo hi ks d w ht ih
  have h : op = 1 ∨ op = 2 ∨ op = 3 ∨ op = 4 ∨ op = 5 ∨ op = 6 ∨ op = 7 ∨ op = 8 := by omega
  rcases h with h | h | h | h | h | h | h | h
  · exact right_1 op h f lo hi ks d w ht ih
  · exact right_2 op h f lo hi ks d w ht ih
  · exact right_3 op h f lo hi ks d w ht ih
  · exact right_4 op h f lo hi ks d w ht ih
  · exact right_5 op h f lo hi ks d w ht ih
  · exact right_6 op h f lo hi ks d w ht ih
  · exact right_7 op h f lo hi ks d w ht ih
  · exact right_8 op h f lo hi ks d w ht ih
end Go.Proofs.Ytnaecagmcpndhaa
