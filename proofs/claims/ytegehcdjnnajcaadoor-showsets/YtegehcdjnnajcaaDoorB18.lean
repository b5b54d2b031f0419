/- Show and Check. -/
import Derived.Test.YtegehcdjnnajcaaDoorB17
namespace Go.Proofs.YtegehcdjnnajcaaDoor
open Go.RowKit
theorem btl_stb (s : ByteArray) : btl s = stb s := rfl
def GivesS (w : World) (r : List Nat × Int) (e : Ending) (w' : World) : Prop := ∃ A c, e = .returned (.tuple #[.slice A r.1.length c, .int .i64 r.2]) ∧ Bts w' A r.1 ∧ Below w.heap.size w w'
set_option maxRecDepth 100000 in
set_option maxHeartbeats 2000000 in
theorem show_any (t : Tm) (d : TD) (w : World) (ht : TR w t d) (hp : Pow w) : Calls Tryd.prog 10 #[d.val] w (GivesS w (showR t)) := by
  have nb := below_new w (.cells d.cells 27)
  have C1 : Hid (Ck w (w.alloc (.cells d.cells 27)) w.heap.size t d) := ⟨nb, ht.keeps nb, TB.new w d, hp.below nb⟩
  have D1 := form_any t d _ C1.out.tr C1.out.pow
  generalize showR t = r at *
  obtain ⟨l, code⟩ := r
  unfold TD.val TD.cells at D1
  have D1 := Lib.hid D1
  unfold TD.cells at C1
  unfold TD.val
  clear ht hp nb
  go_enter Tryd.func10, Tryd.ntmps10
  go_wp2_with fail
  refine D1.out.mono ?_
  rintro e w2 ⟨rfl, hl, hb2⟩
  have B2 := Lib.hid (C1.out.bel.trans (hb2.mono C1.out.bel.size))
  obtain ⟨c, W3, hcv, hB3, hb3⟩ := conv_str (strC l) w2
  have e3 : btl (strC l) = l := by rw [btl_stb]; exact sb_strC l hl
  rw [e3] at hcv hB3
  have HB := Lib.hid hB3
  have B3 := Lib.hid (B2.out.trans (hb3.mono B2.out.size))
  clear D1 hb2 hl hB3 hb3 e3 C1
  obtain ⟨n, hn⟩ : ∃ n, l.length = n := ⟨_, rfl⟩
  rw [hn] at hcv
  have HN := Lib.hid hn
  clear hn
  go_wp2
  go_ret2
  refine ⟨_, _, by rw [HN.out]; rfl, HB.out, B3.out⟩
set_option maxRecDepth 100000 in
set_option maxHeartbeats 2000000 in
theorem check_any (t : Tm) (d : TD) (w : World) (ht : TR w t d) (hp : Pow w) : Calls Tryd.prog 12 #[d.val] w (Tells w (.int .i64 (showR t).2)) := by
  have nb := below_new w (.cells d.cells 27)
  have C1 : Hid (Ck w (w.alloc (.cells d.cells 27)) w.heap.size t d) := ⟨nb, ht.keeps nb, TB.new w d, hp.below nb⟩
  have D1 := form_any t d _ C1.out.tr C1.out.pow
  generalize showR t = r at *
  obtain ⟨l, code⟩ := r
  unfold TD.val TD.cells at D1
  have D1 := Lib.hid D1
  unfold TD.cells at C1
  unfold TD.val
  clear ht hp nb
  go_enter Tryd.func12, Tryd.ntmps12
  go_wp2_with fail
  refine D1.out.mono ?_
  rintro e w2 ⟨rfl, hl, hb2⟩
  have B2 := Lib.hid (C1.out.bel.trans (hb2.mono C1.out.bel.size))
  clear D1 hb2 hl C1
  go_wp2
  go_ret
  exact ⟨rfl, B2.out⟩
end Go.Proofs.YtegehcdjnnajcaaDoor
