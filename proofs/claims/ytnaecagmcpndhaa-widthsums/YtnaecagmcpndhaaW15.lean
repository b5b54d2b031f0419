/- speaks of the width's statements. -/
import Derived.Test.YtnaecagmcpndhaaW14
import Derived.Test.YtnaecagmcpndhaaU3
namespace Go.Proofs.Ytnaecagmcpndhaa
open Go.RowKit
set_option maxRecDepth 100000 in
set_option maxHeartbeats 2000000 in
theorem spans_any (s : ByteArray) (t : Tm) (a b n : Int) (w : World) (h : parseF (btl s) = (t, 0, 0)) (hok : Ok t) (hs : spanT t = ⟨a, b, true⟩) (hp : posT t = n) : Calls Try.prog 34 #[.string s, .int .i64 a, .int .i64 b, .int .i64 n] w (Tells w (.bool true)) := by
  obtain ⟨c, W1, hcv, hB, hb⟩ := conv_str s w
  have D1 := parse_any (some ⟨w.heap.size, 0, none⟩) c (btl s) W1 hB
  rw [h] at D1
  have D1 := Lib.hid D1
  have B1 := Lib.hid hb
  clear hb hB h
  go_enter Try.func34, Try.ntmps34
  go_wp2_with fail
  refine D1.out.mono ?_
  rintro e w2 ⟨d, rfl, hv, hb2⟩
  have V2 := Lib.hid hv.tr; have B2 := Lib.hid (B1.out.trans (hb2.mono B1.out.size))
  clear hv hb2 D1 B1
  have bb := below_new w2 (.cells d.cells 29)
  have V3 := Lib.hid (V2.out.keeps bb)
  have B3 := Lib.hid (B2.out.trans (bb.mono B2.out.size))
  have T3 : Hid (TB (w2.alloc (.cells d.cells 29)) w2.heap.size d) := TB.new w2 d
  have D2 := Lib.hid (spanwhole_any t d _ V3.out hok)
  rw [hs] at D2
  have D3 := Lib.hid fun (W : World) (hw : TR W t d) => (by have := positions_any t d W hw hok; rw [hp] at this; exact this : Calls Try.prog 22 #[d.val] W (Tells W (.int .i64 n)))
  obtain ⟨⟨x0, x1, x2, x3, x4, x5, x6, x7⟩, _⟩ := T3.out.all
  clear bb V2 B2 hok hs hp
  unfold TD.val TD.cells at *
  go_wp2_with fail
  refine D2.out.mono ?_
  rintro e w3 ⟨rfl, hb3⟩
  have V4 := Lib.hid (V3.out.keeps hb3)
  have B4 := Lib.hid (B3.out.trans (hb3.mono B3.out.size))
  have T4 := Lib.hid (T3.out.below hb3)
  clear D2 V3 B3 T3 hb3 x0 x1 x2 x3 x4 x5 x6 x7
  obtain ⟨⟨x0, x1, x2, x3, x4, x5, x6, x7⟩, _⟩ := T4.out.all
  go_wp2_with fail
  refine (D3.out _ V4.out).mono ?_
  rintro e w4 ⟨rfl, hb4⟩
  have B5 := Lib.hid (B4.out.trans (hb4.mono B4.out.size))
  clear D3 V4 B4 T4 hb4 x0 x1 x2 x3 x4 x5 x6 x7
  go_wp2
  go_ret
  exact ⟨rfl, B5.out⟩
theorem pw1 : parseF (btl ⟨#[97, 123, 50, 44, 51, 125, 98, 42]⟩) = (.mk 6 noB 0 0 [.mk 8 noB 2 3 [setT (rgF 97 97)], .mk 8 noB 0 (-1) [setT (rgF 98 98)]], 0, 0) := by kernel_rfl
theorem pw2 : parseF (btl ⟨#[40, 97, 124, 98, 99, 41, 63]⟩) = (.mk 8 noB 0 1 [.mk 7 noB 0 0 [setT (rgF 97 97), .mk 6 noB 0 0 [setT (rgF 98 98), setT (rgF 99 99)]]], 0, 0) := by kernel_rfl
end Go.Proofs.Ytnaecagmcpndhaa
