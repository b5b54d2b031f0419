/- The walk of FoldTwice, with what 'speaks' answers. -/
import Derived.Test.YtkljagffccommaaG40
namespace Go.Proofs.Ytkljagffccommaa
open Go.RowKit

/-- what a walk of a law carries: the term handed in, in its block -/
structure Cf (w wr : World) (t : Tm) (d : TD) : Prop where
  bel : Below w.heap.size w wr
  tb : TB wr w.heap.size d
  tr : TR wr t d
theorem step_cf {w wr w' : World} {t : Tm} {d : TD} (h : Hid (Cf w wr t d)) (hb : Below wr.heap.size wr w') : Hid (Cf w w' t d) := ⟨h.out.bel.trans (hb.mono h.out.bel.size), h.out.tb.below hb, h.out.tr.keeps hb⟩
theorem Cf.new {w : World} {t : Tm} {d : TD} (h : TR w t d) : Hid (Cf w (w.alloc (.cells d.cells 29)) t d) := ⟨below_new _ _, TB.new _ _, h.keeps (below_new _ _)⟩

set_option maxRecDepth 100000 in
set_option maxHeartbeats 8000000 in
theorem twice_walk (HS0 : ∀ w, Calls Try.prog 15 #[] w (Tells w (.bool true))) (t : Tm) (d : TD) (fl : Int) (hfl : -9223372036854775808 ≤ fl ∧ fl ≤ 9223372036854775807) (w : World) (ht : TR w t d) :
    Calls Try.prog 8 #[d.val, .int .i64 fl] w (Tells w (.bool true)) := by
  have HS := Lib.hid HS0; have HFL := Lib.hid hfl
  have C1 := Cf.new ht
  unfold TD.cells at C1
  unfold TD.val
  clear ht HS0 hfl
  go_enter Try.func8, Try.ntmps8
  go_wp2_with fail
  refine (HS.out _).mono ?_
  rintro e w2 ⟨rfl, hb2⟩
  have C2 := step_cf C1 hb2
  have D2 := great_few t d w2 C2.out.tr
  unfold TD.val at D2
  have D2 := Lib.hid D2
  obtain ⟨⟨x0, x1, x2, x3, x4, x5, x6, x7⟩, -⟩ := C2.out.tb.all
  clear C1 hb2
  go_wp2_with fail
  refine D2.out.mono ?_
  rintro e w3 ⟨b3, rfl, hf3, hb3⟩
  have C3 := step_cf C2 hb3
  clear C2 D2 hb3 x0 x1 x2 x3 x4 x5 x6 x7
  obtain ⟨⟨x0, x1, x2, x3, x4, x5, x6, x7⟩, -⟩ := C3.out.tb.all
  cases b3 with
  | true =>
    go_wp2
    go_ret
    exact ⟨rfl, C3.out.bel⟩
  | false =>
    have HF := Lib.hid (hf3 rfl)
    have D3 := right7E t d w3 C3.out.tr HF.out
    unfold TD.val at D3
    have D3 := Lib.hid D3
    clear hf3
    obtain ⟨rb, hrb⟩ : ∃ rb, rightT (woT t) = rb := ⟨_, rfl⟩
    rw [hrb] at D3
    have HR := Lib.hid hrb
    clear hrb
    go_wp2_with fail
    refine D3.out.mono ?_
    rintro e w4 ⟨rfl, hb4⟩
    have C4 := step_cf C3 hb4
    clear C3 D3 hb4 x0 x1 x2 x3 x4 x5 x6 x7
    obtain ⟨⟨x0, x1, x2, x3, x4, x5, x6, x7⟩, -⟩ := C4.out.tb.all
    cases rb with
    | false =>
      go_wp2
      go_ret
      exact ⟨rfl, C4.out.bel⟩
    | true =>
      by_cases hok : 0 ≤ fl ∧ fl ≤ 3
      · have HB := flg_of fl hok.1 hok.2
        have eP := resP_resT (decide (fl % 2 = 1)) (decide (1 < fl)) t HR.out
        have R2 := res_right7 (decide (fl % 2 = 1)) (decide (1 < fl)) t HR.out
        have eP2 := resP_resT (decide (fl % 2 = 1)) (decide (1 < fl)) _ R2
        have S2 := res_twice (decide (fl % 2 = 1)) (decide (1 < fl)) t
        have Z2 := res_dots (decide (fl % 2 = 1)) (decide (1 < fl)) t
        have F2 := res_few (decide (fl % 2 = 1)) (decide (1 < fl)) t HF.out
        have D4 := resolve_any fl _ _ hok HB t d w4 C4.out.tr HF.out
        rw [eP] at D4
        have D5 : Hid (∀ d' W, TR W (resT (decide (fl % 2 = 1)) (decide (1 < fl)) t) d' → Calls Try.prog 18 #[d'.val, .int .i64 fl] W (Rsv W (resT (decide (fl % 2 = 1)) (decide (1 < fl)) (resT (decide (fl % 2 = 1)) (decide (1 < fl)) t)))) := fun d' W h => by
          have := resolve_any fl _ _ hok HB _ d' W h F2
          rw [eP2] at this
          exact this
        generalize resT (decide (fl % 2 = 1)) (decide (1 < fl)) (resT (decide (fl % 2 = 1)) (decide (1 < fl)) t) = v at *
        generalize resT (decide (fl % 2 = 1)) (decide (1 < fl)) t = u at *
        have D4 := Lib.hid D4
        have HU := Lib.hid R2; have HS2 := Lib.hid S2; have HZ := Lib.hid Z2; have HF2 := Lib.hid F2
        clear eP eP2 R2 S2 Z2 F2 HB hok HR
        unfold TD.val at D4
        go_wp2_with fail
        refine D4.out.mono ?_
        rintro e w5 ⟨d5, rfl, hv5, hb5⟩
        have C5 := step_cf (step_cf C4 hb5) (below_new w5 (.cells d5.cells 29))
        have T5 := Lib.hid (TB.new w5 d5)
        have V5 := Lib.hid ((hv5.tr).keeps (below_new w5 (.cells d5.cells 29)))
        have D6 := Lib.hid (D5.out d5 _ V5.out)
        clear C4 D4 D5 hb5 hv5 x0 x1 x2 x3 x4 x5 x6 x7
        obtain ⟨⟨y0, y1, y2, y3, y4, y5, y6, y7⟩, -⟩ := T5.out.all
        unfold TD.val TD.cells at *
        go_wp2_with fail
        refine D6.out.mono ?_
        rintro e w6 ⟨d6, rfl, hv6, hb6⟩
        have C6 := step_cf (step_cf C5 hb6) (below_new w6 (.cells d6.cells 29))
        have T6 := Lib.hid ((T5.out.below hb6).alloc (.cells d6.cells 29))
        have T7 := Lib.hid (TB.new w6 d6)
        have V6 := Lib.hid ((V5.out.keeps hb6).keeps (below_new w6 (.cells d6.cells 29)))
        have V7 := Lib.hid ((hv6.tr).keeps (below_new w6 (.cells d6.cells 29)))
        have D7 := Lib.hid (same_any u v d5 d6 _ V6.out V7.out)
        clear C5 D6 T5 V5 hb6 hv6 y0 y1 y2 y3 y4 y5 y6 y7
        rw [HS2.out] at D7
        obtain ⟨⟨y0, y1, y2, y3, y4, y5, y6, y7⟩, -⟩ := T6.out.all
        obtain ⟨⟨z0, z1, z2, z3, z4, z5, z6, z7⟩, -⟩ := T7.out.all
        unfold TD.val TD.cells at *
        go_wp2_with fail
        refine D7.out.mono ?_
        rintro e w7 ⟨rfl, hb7⟩
        have C7 := step_cf C6 hb7
        have T8 := Lib.hid (T6.out.below hb7)
        have V8 := Lib.hid (V6.out.keeps hb7)
        have D8 := dots_any u d5 w7 V8.out HF2.out HZ.out
        unfold TD.val at D8
        have D8 := Lib.hid D8
        clear C6 D7 T6 T7 V6 V7 hb7 y0 y1 y2 y3 y4 y5 y6 y7 z0 z1 z2 z3 z4 z5 z6 z7
        obtain ⟨⟨y0, y1, y2, y3, y4, y5, y6, y7⟩, -⟩ := T8.out.all
        go_wp2_with fail
        refine D8.out.mono ?_
        rintro e w8 ⟨rfl, hb8⟩
        have C8 := step_cf C7 hb8
        have T9 := Lib.hid (T8.out.below hb8)
        have V9 := Lib.hid (V8.out.keeps hb8)
        have D9 := right7E u d5 w8 V9.out HF2.out
        rw [HU.out] at D9
        unfold TD.val at D9
        have D9 := Lib.hid D9
        clear C7 D8 T8 V8 hb8 y0 y1 y2 y3 y4 y5 y6 y7
        obtain ⟨⟨y0, y1, y2, y3, y4, y5, y6, y7⟩, -⟩ := T9.out.all
        go_wp2_with fail
        refine D9.out.mono ?_
        rintro e w9 ⟨rfl, hb9⟩
        have C9 := step_cf C8 hb9
        clear C8 D9 T9 V9 hb9 y0 y1 y2 y3 y4 y5 y6 y7
        go_wp2
        go_ret
        exact ⟨rfl, C9.out.bel⟩
      · have D4 := resolve_bad fl HFL.out hok d w4
        have HK := Lib.hid hok
        unfold TD.val zT at D4
        have D4 := Lib.hid D4
        clear HR HF hok
        go_wp2_with fail
        refine D4.out.mono ?_
        rintro e w5 ⟨rfl, hb5⟩
        have C5 := step_cf (step_cf C4 hb5) (below_new w5 (.cells #[.int .i64 0, .int .u64 0, .int .u64 0, .int .u64 0, .int .u64 0, .int .i64 0, .int .i64 0, .slice none 0 0] 29))
        clear C4 D4 hb5 x0 x1 x2 x3 x4 x5 x6 x7
        by_cases h0 : fl < 0
        · go_wp2
          go_ret
          exact ⟨rfl, C5.out.bel⟩
        · have h3 : 3 < fl := by have := HK.out; omega
          go_wp2
          go_ret
          exact ⟨rfl, C5.out.bel⟩
end Go.Proofs.Ytkljagffccommaa
