/- The walk of FoldSteps, with what 'speaks' answers. -/
import Derived.Test.YtkljagffccommaaE12
namespace Go.Proofs.Ytkljagffccommaa
open Go.RowKit
set_option maxRecDepth 100000 in
set_option maxHeartbeats 8000000 in
theorem steps_walk (HS0 : ∀ w, Calls Try.prog 15 #[] w (Tells w (.bool true))) (t : Tm) (d : TD) (w : World) (ht : TR w t d) :
    Calls Try.prog 9 #[d.val] w (Tells w (.bool true)) := by
  have HS := Lib.hid HS0
  have C1 := Cf.new ht
  unfold TD.cells at C1
  unfold TD.val
  clear ht HS0
  go_enter Try.func9, Try.ntmps9
  go_wp2_with fail
  refine (HS.out _).mono ?_
  rintro e w2 ⟨rfl, hb2⟩
  have C2 := step_cf C1 hb2
  have D2 := great_few t d w2 C2.out.tr
  unfold TD.val at D2
  have D2 := Lib.hid D2
  obtain ⟨⟨x0, x1, x2, x3, x4, x5, x6, x7⟩, -⟩ := C2.out.tb.all
  clear C1 hb2
  go_wp2_with fail
  refine D2.out.mono ?_
  rintro e w3 ⟨b3, rfl, hf3, hb3⟩
  have C3 := step_cf C2 hb3
  clear C2 D2 hb3 x0 x1 x2 x3 x4 x5 x6 x7
  obtain ⟨⟨x0, x1, x2, x3, x4, x5, x6, x7⟩, -⟩ := C3.out.tb.all
  cases b3 with
  | true =>
    go_wp2
    go_ret
    exact ⟨rfl, C3.out.bel⟩
  | false =>
    have HF := Lib.hid (hf3 rfl)
    have D3 := right7E t d w3 C3.out.tr HF.out
    unfold TD.val at D3
    have D3 := Lib.hid D3
    clear hf3
    obtain ⟨rb, hrb⟩ : ∃ rb, rightT (woT t) = rb := ⟨_, rfl⟩
    rw [hrb] at D3
    have HR := Lib.hid hrb
    clear hrb
    go_wp2_with fail
    refine D3.out.mono ?_
    rintro e w4 ⟨rfl, hb4⟩
    have C4 := step_cf C3 hb4
    clear C3 D3 hb4 x0 x1 x2 x3 x4 x5 x6 x7
    obtain ⟨⟨x0, x1, x2, x3, x4, x5, x6, x7⟩, -⟩ := C4.out.tb.all
    cases rb with
    | false =>
      go_wp2
      go_ret
      exact ⟨rfl, C4.out.bel⟩
    | true =>
      have eP := resP_resT false true t HR.out
      have eB := resP_resT true true t HR.out
      have R2 := res_right7 false true t HR.out
      have eP2 := resP_resT true false _ R2
      have S2 := res_steps t
      have F2 := res_few false true t HF.out
      have D4 := resolve_any 2 false true (by omega) ⟨by decide, by decide⟩ t d w4 C4.out.tr HF.out
      rw [eP] at D4
      have D5 : Hid (∀ W, TR W t d → Calls Try.prog 18 #[d.val, .int .i64 3] W (Rsv W (resT true true t))) := fun W h => by
        have := resolve_any 3 true true (by omega) ⟨by decide, by decide⟩ t d W h HF.out
        rw [eB] at this
        exact this
      have D6 : Hid (∀ d' W, TR W (resT false true t) d' → Calls Try.prog 18 #[d'.val, .int .i64 1] W (Rsv W (resT true false (resT false true t)))) := fun d' W h => by
        have := resolve_any 1 true false (by omega) ⟨by decide, by decide⟩ _ d' W h F2
        rw [eP2] at this
        exact this
      generalize resT true false (resT false true t) = v at *
      generalize resT false true t = u at *
      generalize resT true true t = b at *
      have D4 := Lib.hid D4
      have HS2 := Lib.hid S2
      clear eP eB eP2 R2 S2 F2 HR HF
      unfold TD.val at D4
      go_wp2_with fail
      refine D4.out.mono ?_
      rintro e w5 ⟨d5, rfl, hv5, hb5⟩
      have C5 := step_cf (step_cf C4 hb5) (below_new w5 (.cells d5.cells 29))
      have T5 := Lib.hid (TB.new w5 d5)
      have V5 := Lib.hid ((hv5.tr).keeps (below_new w5 (.cells d5.cells 29)))
      have D7 := Lib.hid (D5.out _ C5.out.tr)
      clear C4 D4 D5 hb5 hv5 x0 x1 x2 x3 x4 x5 x6 x7
      obtain ⟨⟨x0, x1, x2, x3, x4, x5, x6, x7⟩, -⟩ := C5.out.tb.all
      unfold TD.val TD.cells at *
      go_wp2_with fail
      refine D7.out.mono ?_
      rintro e w6 ⟨d6, rfl, hv6, hb6⟩
      have C6 := step_cf (step_cf C5 hb6) (below_new w6 (.cells d6.cells 29))
      have T6 := Lib.hid ((T5.out.below hb6).alloc (.cells d6.cells 29))
      have V6 := Lib.hid ((V5.out.keeps hb6).keeps (below_new w6 (.cells d6.cells 29)))
      have T7 := Lib.hid (TB.new w6 d6)
      have V7 := Lib.hid ((hv6.tr).keeps (below_new w6 (.cells d6.cells 29)))
      have D8 := Lib.hid (D6.out d5 _ V6.out)
      clear C5 D7 D6 T5 V5 hb6 hv6 x0 x1 x2 x3 x4 x5 x6 x7
      obtain ⟨⟨y0, y1, y2, y3, y4, y5, y6, y7⟩, -⟩ := T6.out.all
      unfold TD.val TD.cells at *
      go_wp2_with fail
      refine D8.out.mono ?_
      rintro e w7 ⟨d7, rfl, hv7, hb7⟩
      have C7 := step_cf (step_cf C6 hb7) (below_new w7 (.cells d7.cells 29))
      have T8 := Lib.hid ((T7.out.below hb7).alloc (.cells d7.cells 29))
      have V8 := Lib.hid ((V7.out.keeps hb7).keeps (below_new w7 (.cells d7.cells 29)))
      have T9 := Lib.hid (TB.new w7 d7)
      have V9 := Lib.hid ((hv7.tr).keeps (below_new w7 (.cells d7.cells 29)))
      have D9 := Lib.hid (same_any b v d6 d7 _ V8.out V9.out)
      clear C6 D8 T6 T7 V6 V7 hb7 hv7 y0 y1 y2 y3 y4 y5 y6 y7
      rw [HS2.out] at D9
      obtain ⟨⟨y0, y1, y2, y3, y4, y5, y6, y7⟩, -⟩ := T8.out.all
      obtain ⟨⟨z0, z1, z2, z3, z4, z5, z6, z7⟩, -⟩ := T9.out.all
      unfold TD.val TD.cells at *
      go_wp2_with fail
      refine D9.out.mono ?_
      rintro e w9 ⟨rfl, hb9⟩
      have C9 := step_cf C7 hb9
      clear C7 D9 T8 T9 V8 V9 hb9 y0 y1 y2 y3 y4 y5 y6 y7 z0 z1 z2 z3 z4 z5 z6 z7
      go_wp2
      go_ret
      exact ⟨rfl, C9.out.bel⟩
end Go.Proofs.Ytkljagffccommaa
