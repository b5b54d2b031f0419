/- The walk of ShowBack. -/
import Derived.Test.YtegehcdjnnajcaaDoorB21
namespace Go.Proofs.YtegehcdjnnajcaaDoor
open Go.RowKit
theorem parse_ways (bs : List Nat) : (∃ (x : Nat) (y : Int), (x = 1 ∨ x = 50 ∨ x = 51 ∨ x = 52) ∧ parseF bs = (zTm, x, y)) ∨ ∃ t, parseF bs = (t, 0, 0) ∧ rightT t = true := by
  cases hp : parseF bs with
  | mk t r =>
  obtain ⟨x, y⟩ := r
  have h := hp
  unfold parseF at hp
  split at hp
  · injection hp with e1 e2; injection e2 with e2 e3; subst e1 e2 e3; exact .inl ⟨1, _, .inl rfl, rfl⟩
  · split at hp
    · injection hp with e1 e2; injection e2 with e2 e3; subst e1 e2 e3; exact .inl ⟨50, _, .inr (.inl rfl), rfl⟩
    · split at hp
      · split at hp
        · split at hp
          · injection hp with e1 e2; injection e2 with e2 e3; subst e1 e2 e3
            exact .inr ⟨_, rfl, (parse_right bs _ 0 h).1⟩
          · injection hp with e1 e2; injection e2 with e2 e3; subst e1 e2 e3; exact .inl ⟨51, _, .inr (.inr (.inl rfl)), rfl⟩
        · injection hp with e1 e2; injection e2 with e2 e3; subst e1 e2 e3; exact .inl ⟨52, _, .inr (.inr (.inr rfl)), rfl⟩
      · injection hp with e1 e2; injection e2 with e2 e3; subst e1 e2 e3; exact .inl ⟨50, _, .inr (.inl rfl), rfl⟩
/-- what a right term's form is, once more -/
theorem again_ways (t : Tm) (hr : rightT t = true) : (∃ c : Int, (c = 1 ∨ c = 52) ∧ showR t = ([], c)) ∨ (∃ t' l, showR t = (l, 0) ∧ parseF l = (t', 0, 0) ∧ sameT t' t = true ∧ showR t' = (l, 0)) := by
  rcases show_ways t with ⟨c, hc, hs⟩ | ⟨_, hl, hd, hs, t', hp, hsm⟩
  · rcases hc with rfl | rfl | rfl
    · exact .inl ⟨1, .inl rfl, hs⟩
    · exfalso
      unfold showR at hs
      rw [if_pos hr] at hs
      split at hs
      · injection hs with _ h; cases h
      · split at hs
        · injection hs with _ h; cases h
        · injection hs with _ h; cases h
    · exact .inl ⟨52, .inr rfl, hs⟩
  · refine .inr ⟨t', formT t, hs, hp, hsm, ?_⟩
    have hr' := (parse_right _ t' 0 hp).1
    obtain ⟨e1, e2⟩ := form_same t' t hsm
    unfold showR
    rw [if_pos hr', e1, e2, if_neg (by omega), if_neg (by omega)]
theorem zsame (q : Nat → BitVec 64) (A : Option Addr) (c : Nat) : True := trivial
set_option maxRecDepth 100000 in
set_option maxHeartbeats 8000000 in
theorem back_walk (A : Option Addr) (c : Nat) (bs : List Nat) (w : World) (hx : Bts w A bs) (hp : Pow w) : Calls Tryd.prog 5 #[.slice A bs.length c] w (Tells w (.bool true)) := by
  have D1 := Lib.hid (speaks6_any w hp)
  have HX := Lib.hid hx
  have HP := Lib.hid hp
  have D2 : Hid (∀ W, Bts W A bs → Calls Tryd.prog 14 #[.slice A bs.length c] W (Gave W (parseF bs))) := fun W h => parse_any A c bs W h
  have PW := Lib.hid (parse_ways bs)
  obtain ⟨n, hn⟩ : ∃ n, bs.length = n := ⟨_, rfl⟩
  rw [hn] at D2
  rw [hn]
  clear hx hp hn
  go_enter Tryd.func5, Tryd.ntmps5
  go_wp2_with fail
  refine D1.out.mono ?_
  rintro e w2 ⟨rfl, hb2⟩
  have B2 := Lib.hid hb2
  have P2 := step_pow HP hb2
  have D3 := D2.out w2 (HX.out.below hb2)
  clear D1 D2 HP hb2
  rcases PW.out with ⟨x, y, hxx, hpf⟩ | ⟨t, hpf, hr⟩
  · rw [hpf] at D3
    have D3 := Lib.hid D3
    clear hpf PW
    rcases hxx with rfl | rfl | rfl | rfl
    all_goals
      go_wp2_with fail
      refine D3.out.mono ?_
      rintro e w3 ⟨d3, rfl, hv3, hb3⟩
      have B3 := B2.out.trans (hb3.mono B2.out.size)
      have C3 := Lib.hid (Ck.new B3 hv3.tr (P2.out.below hb3))
      have D4 := same_any zTm zTm d3 zT _ C3.out.tr (zT_tr _)
      rw [zz] at D4
      obtain ⟨⟨x0, x1, x2, x3, x4, x5, x6, x7⟩, -⟩ := C3.out.tb.all
      unfold TD.val TD.cells at D4
      unfold TD.cells at C3 x0 x1 x2 x3 x4 x5 x6 x7
      have D4 := Lib.hid D4
      clear hv3 hb3 B2 P2 D3 B3
      unfold TD.val
      go_wp2_with fail
      refine D4.out.mono ?_
      rintro e w4 ⟨rfl, hb4⟩
      have C4 := step_ck C3 hb4
      clear D4 C3 hb4 x0 x1 x2 x3 x4 x5 x6 x7
      go_wp2
      go_ret
      exact ⟨rfl, C4.out.bel⟩
  · rw [hpf] at D3
    have D3 := Lib.hid D3
    have AW := Lib.hid (again_ways t hr)
    clear hpf PW hr
    go_wp2_with fail
    refine D3.out.mono ?_
    rintro e w3 ⟨d3, rfl, hv3, hb3⟩
    have B3 := B2.out.trans (hb3.mono B2.out.size)
    have C3 := Lib.hid (Ck.new B3 hv3.tr (P2.out.below hb3))
    have D4 := show_any t d3 _ C3.out.tr C3.out.pow
    obtain ⟨⟨x0, x1, x2, x3, x4, x5, x6, x7⟩, -⟩ := C3.out.tb.all
    unfold TD.val TD.cells at D4
    unfold TD.cells at C3 x0 x1 x2 x3 x4 x5 x6 x7
    clear hv3 hb3 B2 P2 D3 B3
    unfold TD.val
    rcases AW.out with ⟨cc, hcc, hs⟩ | ⟨t', l, hs, hpf, hsm, hs'⟩
    · rw [hs] at D4
      have D4 := Lib.hid D4
      clear hs AW
      rcases hcc with rfl | rfl
      all_goals
        go_wp2_with fail
        refine D4.out.mono ?_
        rintro e w4 ⟨A4, c4, rfl, hB4, hb4⟩
        have C4 := step_ck C3 hb4
        clear C3 D4 hB4 hb4 x0 x1 x2 x3 x4 x5 x6 x7
        go_wp2
        go_ret
        exact ⟨rfl, C4.out.bel⟩
    · rw [hs] at D4
      have D4 := Lib.hid D4
      have S := Lib.hid hsm
      have PF := Lib.hid hpf
      have S2 := Lib.hid hs'
      clear hs AW hsm hpf hs'
      go_wp2_with fail
      refine D4.out.mono ?_
      rintro e w4 ⟨A4, c4, rfl, hB4, hb4⟩
      have C4 := step_ck C3 hb4
      have BT4 := Lib.hid hB4
      have D5 := parse_any A4 c4 l w4 hB4
      rw [PF.out] at D5
      have D5 := Lib.hid D5
      clear C3 D4 hB4 hb4 x0 x1 x2 x3 x4 x5 x6 x7
      go_wp2_with fail
      refine D5.out.mono ?_
      rintro e w5 ⟨d5, rfl, hv5, hb5⟩
      have C5 := step_ck C4 hb5
      have K5 := Lib.hid (Ck.new C5.out.bel hv5.tr C5.out.pow)
      have nb5 := below_new w5 (.cells d5.cells 27)
      have C5 := step_ck C5 nb5
      have BT5 := Lib.hid (Bts.below (BT4.out.below hb5) nb5)
      have D6 := show_any t' d5 _ K5.out.tr K5.out.pow
      rw [S2.out] at D6
      obtain ⟨⟨y0, y1, y2, y3, y4, y5, y6, y7⟩, -⟩ := K5.out.tb.all
      unfold TD.val TD.cells at D6
      unfold TD.cells at C5 K5 BT5 y0 y1 y2 y3 y4 y5 y6 y7
      have D6 := Lib.hid D6
      clear C4 D5 hb5 hv5 BT4 nb5
      unfold TD.val
      go_wp2_with fail
      refine D6.out.mono ?_
      rintro e w6 ⟨A6, c6, rfl, hB6, hb6⟩
      have C6 := step_ck C5 hb6
      have K6 := step_ck K5 hb6
      have BT6 := Lib.hid (BT5.out.below hb6)
      have BU6 := Lib.hid hB6
      have D7 := same_any t' t d5 d3 _ K6.out.tr C6.out.tr
      rw [S.out] at D7
      unfold TD.val at D7
      have D7 := Lib.hid D7
      clear D6 hB6 hb6 C5 K5 BT5 y0 y1 y2 y3 y4 y5 y6 y7
      obtain ⟨⟨x0, x1, x2, x3, x4, x5, x6, x7⟩, -⟩ := C6.out.tb.all
      obtain ⟨⟨y0, y1, y2, y3, y4, y5, y6, y7⟩, -⟩ := K6.out.tb.all
      have lt5 := C6.out.tb.lt
      have lt6 := K6.out.tb.lt
      go_wp2_with fail
      refine D7.out.mono ?_
      rintro e w7 ⟨rfl, hb7⟩
      have C7 := step_ck C6 hb7
      have k1 := conv_bts c4 (BT6.out.below hb7)
      have k2 := conv_bts c6 (BU6.out.below hb7)
      clear C6 K6 BT6 BU6 D7 hb7 x0 x1 x2 x3 x4 x5 x6 x7 y0 y1 y2 y3 y4 y5 y6 y7 lt5 lt6
      generalize strC l = s at *
      go_wp2
      go_ret
      exact ⟨rfl, C7.out.bel⟩
end Go.Proofs.YtegehcdjnnajcaaDoor
