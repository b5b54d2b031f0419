/- A term so many times: the walk of WidthTimes. -/
import Derived.Test.YtnaecagmcpndhaaX70
import Derived.Deep.RegionHeld3
namespace Go.Proofs.Ytnaecagmcpndhaa
open Go.RowKit
theorem step_cx {w W w' : World} {b : Nat} {t : Tm} {d : TD} (h : Hid (Cx w W b t d)) (hb : Below W.heap.size W w') : Hid (Cx w w' b t d) := h.out.to hb
theorem times_small {a n : Int} (ha : 0 ≤ a) (h : a ≤ 1073741824) (h1 : 1 ≤ n) (h2 : n ≤ 200) : timesF a n = n * a ∧ IntKind.i64.wrap (n * a) = n * a := by
  have h3 : 0 ≤ n * a := Int.mul_nonneg (by omega) ha
  have h4 : n * a ≤ 200 * 1073741824 := Int.mul_le_mul h2 h ha (by omega)
  refine ⟨?_, IntWalk.i64_in _ (by omega)⟩
  unfold timesF
  rw [Int.mul_comm a n, if_pos (by omega)]
/-- what a term so many times is, where all is small -/
theorem times_facts (t : Tm) (n : Int) (h : Ok t) (h1 : 1 ≤ n) (h2 : n ≤ 200) (hl : (spanT t).l ≤ 1073741824) (hm : (spanT t).m ≤ 1073741824) (hp : posT t ≤ 1073741824) :
    (spanT (.mk 8 noB n n [t])).a = (spanT t).a ∧ IntKind.i64.wrap (n * (spanT t).l) = (spanT (.mk 8 noB n n [t])).l ∧ (((spanT t).m < 0 ∧ (spanT (.mk 8 noB n n [t])).m < 0) ∨ (¬ (spanT t).m < 0 ∧ IntKind.i64.wrap (n * (spanT t).m) = (spanT (.mk 8 noB n n [t])).m)) ∧ IntKind.i64.wrap (n * posT t) = posT (.mk 8 noB n n [t]) := by
  have hs := posT_sm t h
  have he := spanT_eo t h
  have h0 := span_no t
  rw [span_one, pos_one t n n h]
  have ec : copiesF n n = n := by unfold copiesF; rw [if_neg (by omega)]
  rw [ec]
  have hpp := times_small hs.1 hp h1 h2
  refine ⟨?_, ?_, ?_, by rw [hpp.1, hpp.2]⟩
  · generalize spanT t = x at *
    unfold repeatF
    split
    · rename_i ha; rw [ha]
    · rename_i ha
      simp at ha
      rw [ha]
      show decide (n = 0) = false
      simp; omega
  · generalize spanT t = x at *
    unfold repeatF
    have hll := times_small he.l.1 hl h1 h2
    split
    · show _ = timesF x.l n; rw [hll.1, hll.2]
    · rename_i ha
      simp at ha
      rw [hll.2, (h0 ha).1]
      show n * 0 = 0
      omega
  · generalize spanT t = x at *
    unfold repeatF
    split
    · show (_ ∧ (if x.m = 0 ∨ n = 0 then 0 else mostF timesF x.m n) < 0) ∨ (_ ∧ _ = (if x.m = 0 ∨ n = 0 then 0 else mostF timesF x.m n))
      rcases he.m with hm1 | hm1
      · left
        rw [hm1, if_neg (by omega)]
        simp [mostF]
      · right
        have hmm := times_small hm1.1 hm h1 h2
        refine ⟨by have := hm1.1; omega, ?_⟩
        rw [hmm.2]
        split
        · rename_i hz
          rcases hz with hz | hz
          · rw [hz]; omega
          · omega
        · rename_i hz
          unfold mostF
          rw [if_neg (by have := hm1.1; omega), hmm.1]
    · rename_i ha
      simp at ha
      right
      rw [(h0 ha).2]
      refine ⟨by omega, ?_⟩
      rw [IntWalk.i64_in _ (by omega)]
      show n * 0 = 0
      omega
set_option maxRecDepth 100000 in
set_option maxHeartbeats 8000000 in
theorem times_walk (t : Tm) (d : TD) (n : Int) (w : World) (ht : TR w t d) : Calls Try.prog 11 #[d.val, .int .i64 n] w (Tells w (.bool true)) := by
  have C1 : Hid (Cx w (w.alloc (.cells d.cells 29)) w.heap.size t d) := ⟨below_new w _, ht.keeps (below_new w _), TB.new w d⟩
  have D1 := Lib.hid (speaks7_any (w.alloc (.cells d.cells 29)))
  unfold TD.cells at C1 D1
  unfold TD.val
  clear ht
  go_enter Try.func11, Try.ntmps11
  go_wp2_with fail
  refine D1.out.mono ?_
  rintro e w2 ⟨rfl, hb2⟩
  have C2 := Lib.hid (C1.out.to hb2)
  have D2 := Lib.hid (great_few t d w2 C2.out.tr)
  obtain ⟨⟨x0, x1, x2, x3, x4, x5, x6, x7⟩, -⟩ := C2.out.tb.all
  clear C1 D1 hb2
  unfold TD.val at D2
  go_wp2_with fail
  refine D2.out.mono ?_
  rintro e w3 ⟨b3, rfl, hf3, hb3⟩
  have C3 := Lib.hid (C2.out.to hb3)
  clear C2 D2 hb3 x0 x1 x2 x3 x4 x5 x6 x7
  obtain ⟨⟨x0, x1, x2, x3, x4, x5, x6, x7⟩, -⟩ := C3.out.tb.all
  cases b3 with
  | true =>
    go_wp2
    go_ret
    exact ⟨rfl, C3.out.bel⟩
  | false =>
  have D3 := Lib.hid (right7_any t d w3 C3.out.tr (hf3 rfl))
  clear hf3
  unfold TD.val at D3
  go_wp2_with fail
  refine D3.out.mono ?_
  rintro e w4 ⟨b4, rfl, hr4, hb4⟩
  have C4 := Lib.hid (C3.out.to hb4)
  clear C3 D3 hb4 x0 x1 x2 x3 x4 x5 x6 x7
  obtain ⟨⟨x0, x1, x2, x3, x4, x5, x6, x7⟩, -⟩ := C4.out.tb.all
  cases b4 with
  | false =>
    go_wp2
    go_ret
    exact ⟨rfl, C4.out.bel⟩
  | true =>
  have OK := Lib.hid (Rt.ok t (hr4 rfl))
  clear hr4
  by_cases hn1 : n < 1
  · go_wp2
    go_ret
    exact ⟨rfl, C4.out.bel⟩
  by_cases hn2 : 200 < n
  · go_wp2
    go_ret
    exact ⟨rfl, C4.out.bel⟩
  have D4 := Lib.hid (spanwhole_any t d w4 C4.out.tr OK.out)
  unfold TD.val at D4
  go_wp2_with fail
  refine D4.out.mono ?_
  rintro e w5 ⟨rfl, hb5⟩
  have C5 := Lib.hid (C4.out.to hb5)
  clear C4 D4 hb5 x0 x1 x2 x3 x4 x5 x6 x7
  obtain ⟨⟨x0, x1, x2, x3, x4, x5, x6, x7⟩, -⟩ := C5.out.tb.all
  have lt5 := C5.out.tb.lt
  have S6 : Hid (TR (w5.alloc (.cells d.cells 29)) (.mk 8 noB n n [t]) ⟨8, fun _ => 0#64, n, n, some ⟨w5.heap.size, 0, none⟩, 1, 1⟩) := TR.one (C5.out.tr.keeps (below_new _ _)) (TB.new w5 d) 8 n n
  have OK2 := Lib.hid (ok_one n n OK.out (by omega))
  have C6 := Lib.hid (C5.out.to (below_new w5 (.cells d.cells 29)))
  have D6 := Lib.hid (spanwhole_any _ _ _ S6.out OK2.out)
  clear C5 S6
  unfold TD.cells at C6 D6
  unfold TD.val at D6
  go_wp2_with fail
  refine D6.out.mono ?_
  rintro e w7 ⟨rfl, hb7⟩
  have C7 := Lib.hid (C6.out.to hb7)
  clear C6 D6 hb7 x0 x1 x2 x3 x4 x5 x6 x7 lt5
  obtain ⟨⟨x0, x1, x2, x3, x4, x5, x6, x7⟩, -⟩ := C7.out.tb.all
  have lt7 := C7.out.tb.lt
  have dr : Below w7.heap.size w7 w7.drew := (Below.refl _ _).drew
  have C7d := Lib.hid (C7.out.to dr)
  have C7a : Hid (Cx w (w7.drew.alloc (.cells #[.int .i64 d.op, .int .u64 (uv (d.q 0)), .int .u64 (uv (d.q 1)), .int .u64 (uv (d.q 2)), .int .u64 (uv (d.q 3)), .int .i64 d.lo, .int .i64 d.hi, .slice d.A d.n d.c] 29)) w.heap.size t d) := C7d.out.to (below_new _ _)
  have T7a : Hid (TB (w7.drew.alloc (.cells #[.int .i64 d.op, .int .u64 (uv (d.q 0)), .int .u64 (uv (d.q 1)), .int .u64 (uv (d.q 2)), .int .u64 (uv (d.q 3)), .int .i64 d.lo, .int .i64 d.hi, .slice d.A d.n d.c] 29)) w7.heap.size d) := TB.new w7.drew d
  have P2 : Hid (∀ W : World, Hid (Cx w W w.heap.size t d) → Calls Try.prog 22 #[d.val] W (Tells W (.int .i64 (posT t)))) := fun W h => positions_any _ _ W h.out.tr OK.out
  have P1 : Hid (∀ (W : World) (b : Nat), Hid (Cx w W w.heap.size t d) → Hid (TB W b d) → Calls Try.prog 22 #[TD.val ⟨8, fun _ => 0#64, n, n, some ⟨b, 0, none⟩, 1, 1⟩] W (Tells W (.int .i64 (posT (.mk 8 noB n n [t]))))) := fun W b h hb => positions_any _ _ W (TR.one h.out.tr hb.out 8 n n) OK2.out
  have FA := Lib.hid (times_facts t n OK.out (by omega) (by omega))
  clear dr C7 OK OK2
  unfold TD.val at P1 P2
  generalize posT (.mk 8 noB n n [t]) = pq at *
  generalize posT t = pp at *
  generalize (spanT (.mk 8 noB n n [t])).l = yl at *
  generalize (spanT (.mk 8 noB n n [t])).m = ym at *
  generalize (spanT (.mk 8 noB n n [t])).a = ya at *
  generalize (spanT t).l = xl at *
  generalize (spanT t).m = xm at *
  generalize (spanT t).a = xa at *
  go_wp2_with fail
  go_region_held3 (fun w' => w'.cell? ⟨w.heap.size, 0, none⟩ = some (.int .i64 d.op) ∧ w'.cell? ⟨w.heap.size, 1, none⟩ = some (.int .u64 (uv (d.q 0))) ∧ w'.cell? ⟨w.heap.size, 2, none⟩ = some (.int .u64 (uv (d.q 1))) ∧ w'.cell? ⟨w.heap.size, 3, none⟩ = some (.int .u64 (uv (d.q 2))) ∧ w'.cell? ⟨w.heap.size, 4, none⟩ = some (.int .u64 (uv (d.q 3))) ∧ w'.cell? ⟨w.heap.size, 5, none⟩ = some (.int .i64 d.lo) ∧ w'.cell? ⟨w.heap.size, 6, none⟩ = some (.int .i64 d.hi) ∧ w'.cell? ⟨w.heap.size, 7, none⟩ = some (.slice d.A d.n d.c))
    (first | exact ⟨by assumption, by assumption, by assumption, by assumption, by assumption, by assumption, by assumption, by assumption⟩ | go_keep)
    (first
      | (go_at_call_of 22 d.op; refine (P2.out _ (by assumption)).mono ?_; rintro e w8 ⟨rfl, hb⟩; have C8 := step_cx (by assumption) hb; (first | (have T8 := step_tb T7a hb) | (have T8 := Lib.hid (TB.new w8 d); have C9 := Lib.hid (C8.out.to (below_new w8 (.cells d.cells 29))); unfold TD.cells at T8 C9)); clear hb; obtain ⟨⟨_, _, _, _, _, _, _, _⟩, -⟩ := C8.out.tb.all; have lt8 := C8.out.tb.lt)
      | (go_at_call 22; refine (P1.out _ _ (by assumption) (by assumption)).mono ?_; rintro e wn ⟨rfl, hb⟩; have CN := step_cx (by assumption) hb; clear hb; obtain ⟨⟨_, _, _, _, _, _, _, _⟩, -⟩ := CN.out.tb.all)
      | fail)
  all_goals
    have CE := Lib.hid CN.out.bel
    clear C7d C7a T7a P1 P2 C8 T8 CN x0 x1 x2 x3 x4 x5 x6 x7 lt7 lt8
    by_cases q1 : 1073741824 < xl
    · go_wp2
      go_ret
      exact ⟨rfl, CE.out⟩
    by_cases q2 : 1073741824 < xm
    · go_wp2
      go_ret
      exact ⟨rfl, CE.out⟩
    by_cases q3 : 1073741824 < pp
    · go_wp2
      go_ret
      exact ⟨rfl, CE.out⟩
    obtain ⟨e0, e1, e2, e3⟩ := FA.out (by omega) (by omega) (by omega)
    clear FA
    subst e0
    rcases e2 with ⟨hm, hy⟩ | ⟨hm, hy⟩
    · go_wp2
      go_ret
      exact ⟨rfl, CE.out⟩
    · go_wp2
      go_ret
      exact ⟨rfl, CE.out⟩
end Go.Proofs.Ytnaecagmcpndhaa
