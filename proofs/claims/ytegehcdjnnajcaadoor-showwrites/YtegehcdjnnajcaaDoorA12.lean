/- The document's form of any right term; the document's Show. The walk of ShowWrites, with what Show's parts say. -/
import Derived.Test.YtegehcdjnnajcaaDoorB316
import Derived.Test.YtegehcdjnnajcaaDoorB317
import Derived.Test.YtegehcdjnnajcaaDoorB318
import Derived.Test.YtegehcdjnnajcaaDoorA5
import Derived.Test.YtegehcdjnnajcaaDoorA11
namespace Go.Proofs.YtegehcdjnnajcaaDoor
open Go.RowKit
theorem formR_any : ∀ t : Tm, rightT t = true → szT t ≤ 500 → ∀ (d : TD) (w : World), TR w t d → Calls Tryd.prog 20 #[d.val] w (FormR w t) := by
  intro t
  induction t using Tm.ind with
  | h op f lo hi ks ih =>
  intro hr hz d w ht
  have R := right_is hr
  have h1 := R.op1
  have h8 := R.op8
  have h : op = 1 ∨ op = 2 ∨ op = 3 ∨ op = 4 ∨ op = 5 ∨ op = 6 ∨ op = 7 ∨ op = 8 := by omega
  rcases h with rfl | rfl | rfl | rfl | rfl | rfl | rfl | rfl
  · exact formR_1 f lo hi ks d w ht
  · exact formR_2 f lo hi ks d w ht
  · exact formR_3 f lo hi ks d w ht
  · exact formR_4 f lo hi ks d w ht
  · exact formR_5 f lo hi ks d w ht
  · exact formR_6 f lo hi ks d w hr hz ht ih
  · exact formR_7 f lo hi ks d w hr hz ht ih
  · exact formR_8 f lo hi ks d w hr hz ht ih
end Go.Proofs.YtegehcdjnnajcaaDoor
namespace Go.Proofs.YtegehcdjnnajcaaDoor
open Go.RowKit
theorem writes_walk (t : Tm) (d : TD) (w : World) (ht : TR w t d) (hp : Pow w) : Calls Tryd.prog 3 #[d.val] w (Tells w (.bool true)) :=
  writes_walk0 (fun t d w hz ht => showR2_any0 rightR_any formR_any t d w hz ht) t d w ht hp
end Go.Proofs.YtegehcdjnnajcaaDoor
