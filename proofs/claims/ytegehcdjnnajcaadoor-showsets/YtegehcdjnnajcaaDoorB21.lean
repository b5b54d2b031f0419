/- The walk of ShowThere. -/
import Derived.Test.YtegehcdjnnajcaaDoorB20
import Derived.Test.YtegehcdjnnajcaaDoorW1
namespace Go.Proofs.YtegehcdjnnajcaaDoor
open Go.RowKit
theorem show_ways (t : Tm) : (∃ c : Int, (c = 1 ∨ c = 2 ∨ c = 52) ∧ showR t = ([], c)) ∨ (rightT t = true ∧ (formT t).length ≤ 200 ∧ depT t ≤ 30 ∧ showR t = (formT t, 0) ∧ ∃ t', parseF (formT t) = (t', 0, 0) ∧ sameT t' t = true) := by
  unfold showR
  by_cases hr : rightT t = true
  · by_cases h1 : 200 < (formT t).length
    · exact .inl ⟨1, .inl rfl, by rw [if_pos hr, if_pos h1]⟩
    · by_cases h2 : 30 < depT t
      · exact .inl ⟨52, .inr (.inr rfl), by rw [if_pos hr, if_neg h1, if_pos h2]⟩
      · right
        refine ⟨hr, by omega, by omega, by rw [if_pos hr, if_neg h1, if_neg h2], ?_⟩
        exact form_back t hr (by omega) (by omega) (by have := dep_le t; omega)
  · exact .inl ⟨2, .inr (.inl rfl), by rw [if_neg hr]⟩
theorem step_ck {w W W' : World} {b : Nat} {t : Tm} {d : TD} (h : Hid (Ck w W b t d)) (hb : Below W.heap.size W W') : Hid (Ck w W' b t d) := Ck.to h.out hb
theorem Ck.new {w W : World} {t : Tm} {d : TD} (hb : Below w.heap.size w W) (ht : TR W t d) (hp : Pow W) : Ck w (W.alloc (.cells d.cells 27)) W.heap.size t d :=
  ⟨hb.trans ((below_new W _).mono hb.size), ht.keeps (below_new W _), TB.new W d, hp.below (below_new W _)⟩
set_option maxRecDepth 100000 in
set_option maxHeartbeats 4000000 in
theorem there_walk (t : Tm) (d : TD) (w : World) (ht : TR w t d) (hp : Pow w) : Calls Tryd.prog 4 #[d.val] w (Tells w (.bool true)) := by
  have C1 := Lib.hid (Ck.new (Below.refl _ _) ht hp)
  have D1 := Lib.hid (speaks6_any _ C1.out.pow)
  unfold TD.cells at C1 D1
  unfold TD.val
  clear ht hp
  go_enter Tryd.func4, Tryd.ntmps4
  go_wp2_with fail
  refine D1.out.mono ?_
  rintro e w2 ⟨rfl, hb2⟩
  have C2 := step_ck C1 hb2
  have D2 := great_any t d w2 C2.out.tr
  unfold TD.val at D2
  have D2 := Lib.hid D2
  obtain ⟨⟨x0, x1, x2, x3, x4, x5, x6, x7⟩, -⟩ := C2.out.tb.all
  clear C1 D1 hb2
  go_wp2_with fail
  refine D2.out.mono ?_
  rintro e w3 ⟨b3, rfl, hb3⟩
  have C3 := step_ck C2 hb3
  clear C2 D2 hb3 x0 x1 x2 x3 x4 x5 x6 x7
  obtain ⟨⟨x0, x1, x2, x3, x4, x5, x6, x7⟩, -⟩ := C3.out.tb.all
  cases b3 with
  | true =>
    go_wp2
    go_ret
    exact ⟨rfl, C3.out.bel⟩
  | false =>
  have D3 := show_any t d w3 C3.out.tr C3.out.pow
  rcases show_ways t with ⟨c, hc, hs⟩ | ⟨hr, hl, hdp, hs, t', hpf, hsm⟩
  · have D4 : Hid (∀ W, Hid (Ck w W w.heap.size t d) → Calls Tryd.prog 12 #[d.val] W (Tells W (.int .i64 c))) := fun W h => by
      have := check_any t d W h.out.tr h.out.pow
      rw [hs] at this; exact this
    rw [hs] at D3
    unfold TD.val at D3 D4
    have D3 := Lib.hid D3
    clear hs
    rcases hc with rfl | rfl | rfl
    all_goals
      go_wp2_with fail
      refine D3.out.mono ?_
      rintro e w4 ⟨A, c4, rfl, hB4, hb4⟩
      have C4 := step_ck C3 hb4
      clear C3 D3 hB4 hb4 x0 x1 x2 x3 x4 x5 x6 x7
      obtain ⟨⟨x0, x1, x2, x3, x4, x5, x6, x7⟩, -⟩ := C4.out.tb.all
      go_wp2_with fail
      refine (D4.out _ C4).mono ?_
      rintro e w5 ⟨rfl, hb5⟩
      have C5 := step_ck C4 hb5
      clear C4 D4 hb5 x0 x1 x2 x3 x4 x5 x6 x7
      go_wp2
      go_ret
      exact ⟨rfl, C5.out.bel⟩
  · rw [hs] at D3
    unfold TD.val at D3
    have D3 := Lib.hid D3
    have S := Lib.hid hsm
    have PF := Lib.hid hpf
    generalize formT t = l at *
    clear hr hl hdp hs hsm hpf
    go_wp2_with fail
    refine D3.out.mono ?_
    rintro e w4 ⟨A, c4, rfl, hB4, hb4⟩
    have C4 := step_ck C3 hb4
    have D5 := parse_any A c4 l w4 hB4
    rw [PF.out] at D5
    have D5 := Lib.hid D5
    clear C3 D3 hB4 hb4 x0 x1 x2 x3 x4 x5 x6 x7
    go_wp2_with fail
    refine D5.out.mono ?_
    rintro e w5 ⟨d5, rfl, hv5, hb5⟩
    have C5 := step_ck C4 hb5
    have K5 := Lib.hid (Ck.new C5.out.bel hv5.tr C5.out.pow)
    have C5 := step_ck C5 (below_new w5 (.cells d5.cells 27))
    have D6 := same_any t' t d5 d _ K5.out.tr C5.out.tr
    rw [S.out] at D6
    obtain ⟨⟨x0, x1, x2, x3, x4, x5, x6, x7⟩, -⟩ := C5.out.tb.all
    obtain ⟨⟨y0, y1, y2, y3, y4, y5, y6, y7⟩, -⟩ := K5.out.tb.all
    have lt5 := C5.out.tb.lt
    have lt6 := K5.out.tb.lt
    unfold TD.val TD.cells at D6
    unfold TD.cells at C5 K5 x0 x1 x2 x3 x4 x5 x6 x7 y0 y1 y2 y3 y4 y5 y6 y7 lt5 lt6
    have D6 := Lib.hid D6
    clear C4 D5 hb5 hv5
    unfold TD.val
    go_wp2_with fail
    refine D6.out.mono ?_
    rintro e w6 ⟨rfl, hb6⟩
    have C6 := step_ck C5 hb6
    clear C5 K5 D6 hb6 x0 x1 x2 x3 x4 x5 x6 x7 y0 y1 y2 y3 y4 y5 y6 y7
    go_wp2
    go_ret
    exact ⟨rfl, C6.out.bel⟩
end Go.Proofs.YtegehcdjnnajcaaDoor
