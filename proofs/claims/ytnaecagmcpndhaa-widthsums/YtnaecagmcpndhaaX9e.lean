/- Two terms one behind the other, and one of both: the walk of WidthSums, one case of four. -/
import Derived.Test.YtnaecagmcpndhaaX6d
import Derived.Deep.RegionHeld3
namespace Go.Proofs.Ytnaecagmcpndhaa
open Go.RowKit
set_option maxRecDepth 100000 in
set_option maxHeartbeats 8000000 in
theorem sums_walk_e (t u : Tm) (d e : TD) (w : World) (ht : TR w t d) (hu : TR w u e) (hx : (spanT t).a = true) (hy : (spanT u).a = true) (kt : ¬ (spanT t).m < 0) (ku : (spanT u).m < 0) : Calls Try.prog 10 #[d.val, e.val] w (Tells w (.bool true)) := by
  have C1 : Hid (Bo w w.heap.size (w.heap.size + 1) t u d e ((w.alloc (.cells d.cells 29)).alloc (.cells e.cells 29))) := by
    have hb := nb2 w (.cells d.cells 29) (.cells e.cells 29)
    refine ⟨⟨hb, ht.keeps hb, (TB.new w d).alloc _⟩, ⟨hb, hu.keeps hb, ?_⟩⟩
    have h := TB.new (w.alloc (.cells d.cells 29)) e
    rw [World.size_alloc] at h
    exact h
  have D1 := Lib.hid (speaks7_any ((w.alloc (.cells d.cells 29)).alloc (.cells e.cells 29)))
  unfold TD.cells at C1 D1
  unfold TD.val
  have HX := Lib.hid hx
  have HY := Lib.hid hy
  have Hkt := Lib.hid kt
  have Hku := Lib.hid ku
  clear kt ku ht hu hx hy
  go_enter Try.func10, Try.ntmps10
  go_wp2_with fail
  refine D1.out.mono ?_
  rintro en w2 ⟨rfl, hb2⟩
  have C2 := step_bo C1 hb2
  clear C1 D1 hb2
  obtain ⟨⟨x0, x1, x2, x3, x4, x5, x6, x7⟩, -⟩ := C2.out.1.tb.all
  obtain ⟨⟨y0, y1, y2, y3, y4, y5, y6, y7⟩, -⟩ := C2.out.2.tb.all
  have D := Lib.hid (great_few t d w2 C2.out.1.tr)
  unfold TD.val at D
  go_wp2_with fail
  refine D.out.mono ?_
  rintro en w3 ⟨b, rfl, hq, hb⟩
  have C3 := step_bo C2 hb
  clear D C2 hb x0 x1 x2 x3 x4 x5 x6 x7 y0 y1 y2 y3 y4 y5 y6 y7
  obtain ⟨⟨x0, x1, x2, x3, x4, x5, x6, x7⟩, -⟩ := C3.out.1.tb.all
  obtain ⟨⟨y0, y1, y2, y3, y4, y5, y6, y7⟩, -⟩ := C3.out.2.tb.all
  cases b with
  | true =>
    go_wp2
    go_ret
    exact ⟨rfl, C3.out.1.bel⟩
  | false =>
  have Ft := Lib.hid (hq rfl)
  clear hq
  have D := Lib.hid (great_few u e w3 C3.out.2.tr)
  unfold TD.val at D
  go_wp2_with fail
  refine D.out.mono ?_
  rintro en w4 ⟨b, rfl, hq, hb⟩
  have C4 := step_bo C3 hb
  clear D C3 hb x0 x1 x2 x3 x4 x5 x6 x7 y0 y1 y2 y3 y4 y5 y6 y7
  obtain ⟨⟨x0, x1, x2, x3, x4, x5, x6, x7⟩, -⟩ := C4.out.1.tb.all
  obtain ⟨⟨y0, y1, y2, y3, y4, y5, y6, y7⟩, -⟩ := C4.out.2.tb.all
  cases b with
  | true =>
    go_wp2
    go_ret
    exact ⟨rfl, C4.out.1.bel⟩
  | false =>
  have Fu := Lib.hid (hq rfl)
  clear hq
  have D := Lib.hid (right7_any t d w4 C4.out.1.tr Ft.out)
  unfold TD.val at D
  go_wp2_with fail
  refine D.out.mono ?_
  rintro en w5 ⟨b, rfl, hq, hb⟩
  have C5 := step_bo C4 hb
  clear D C4 hb x0 x1 x2 x3 x4 x5 x6 x7 y0 y1 y2 y3 y4 y5 y6 y7
  obtain ⟨⟨x0, x1, x2, x3, x4, x5, x6, x7⟩, -⟩ := C5.out.1.tb.all
  obtain ⟨⟨y0, y1, y2, y3, y4, y5, y6, y7⟩, -⟩ := C5.out.2.tb.all
  cases b with
  | false =>
    go_wp2
    go_ret
    exact ⟨rfl, C5.out.1.bel⟩
  | true =>
  have Ot := Lib.hid (Rt.ok t (hq rfl))
  clear hq
  have D := Lib.hid (right7_any u e w5 C5.out.2.tr Fu.out)
  unfold TD.val at D
  go_wp2_with fail
  refine D.out.mono ?_
  rintro en w6 ⟨b, rfl, hq, hb⟩
  have C6 := step_bo C5 hb
  clear D C5 hb x0 x1 x2 x3 x4 x5 x6 x7 y0 y1 y2 y3 y4 y5 y6 y7
  obtain ⟨⟨x0, x1, x2, x3, x4, x5, x6, x7⟩, -⟩ := C6.out.1.tb.all
  obtain ⟨⟨y0, y1, y2, y3, y4, y5, y6, y7⟩, -⟩ := C6.out.2.tb.all
  cases b with
  | false =>
    go_wp2
    go_ret
    exact ⟨rfl, C6.out.1.bel⟩
  | true =>
  have Ou := Lib.hid (Rt.ok u (hq rfl))
  clear hq
  have D := Lib.hid (spanwhole_any t d w6 C6.out.1.tr Ot.out)
  unfold TD.val at D
  go_wp2_with fail
  refine D.out.mono ?_
  rintro en w7 ⟨rfl, hb⟩
  have C7 := step_bo C6 hb
  clear D C6 hb x0 x1 x2 x3 x4 x5 x6 x7 y0 y1 y2 y3 y4 y5 y6 y7
  obtain ⟨⟨x0, x1, x2, x3, x4, x5, x6, x7⟩, -⟩ := C7.out.1.tb.all
  obtain ⟨⟨y0, y1, y2, y3, y4, y5, y6, y7⟩, -⟩ := C7.out.2.tb.all
  have D := Lib.hid (spanwhole_any u e w7 C7.out.2.tr Ou.out)
  unfold TD.val at D
  go_wp2_with fail
  refine D.out.mono ?_
  rintro en w8 ⟨rfl, hb⟩
  have C8 := step_bo C7 hb
  clear D C7 hb x0 x1 x2 x3 x4 x5 x6 x7 y0 y1 y2 y3 y4 y5 y6 y7
  obtain ⟨⟨x0, x1, x2, x3, x4, x5, x6, x7⟩, -⟩ := C8.out.1.tb.all
  obtain ⟨⟨y0, y1, y2, y3, y4, y5, y6, y7⟩, -⟩ := C8.out.2.tb.all
  have lt8 := C8.out.1.tb.lt
  have mt8 := C8.out.2.tb.lt
  have F9 : Hid (Fo w w.heap.size (w.heap.size + 1) (w8.heap.size + 1) (w8.heap.size + 1 + 1 + 1) t u d e ⟨6, fun _ => 0#64, 0, 0, some ⟨w8.heap.size, 0, none⟩, 2, 2⟩ ⟨7, fun _ => 0#64, 0, 0, some ⟨w8.heap.size + 1 + 1, 0, none⟩, 2, 2⟩ ((((w8.alloc (.cells #[.int .i64 d.op, .int .u64 (uv (d.q 0)), .int .u64 (uv (d.q 1)), .int .u64 (uv (d.q 2)), .int .u64 (uv (d.q 3)), .int .i64 d.lo, .int .i64 d.hi, .slice d.A d.n d.c, .int .i64 e.op, .int .u64 (uv (e.q 0)), .int .u64 (uv (e.q 1)), .int .u64 (uv (e.q 2)), .int .u64 (uv (e.q 3)), .int .i64 e.lo, .int .i64 e.hi, .slice e.A e.n e.c] 29)).alloc (.cells #[.int .i64 6, .int .u64 0, .int .u64 0, .int .u64 0, .int .u64 0, .int .i64 0, .int .i64 0, .slice (some ⟨w8.heap.size, 0, none⟩) 2 2] 29)).alloc (.cells #[.int .i64 d.op, .int .u64 (uv (d.q 0)), .int .u64 (uv (d.q 1)), .int .u64 (uv (d.q 2)), .int .u64 (uv (d.q 3)), .int .i64 d.lo, .int .i64 d.hi, .slice d.A d.n d.c, .int .i64 e.op, .int .u64 (uv (e.q 0)), .int .u64 (uv (e.q 1)), .int .u64 (uv (e.q 2)), .int .u64 (uv (e.q 3)), .int .i64 e.lo, .int .i64 e.hi, .slice e.A e.n e.c] 29)).alloc (.cells #[.int .i64 7, .int .u64 0, .int .u64 0, .int .u64 0, .int .u64 0, .int .i64 0, .int .i64 0, .slice (some ⟨w8.heap.size + 1 + 1, 0, none⟩) 2 2] 29))) := by
    obtain ⟨⟨h1, h2, h3, h4⟩, hb⟩ := alloc4 w8 (.cells #[.int .i64 d.op, .int .u64 (uv (d.q 0)), .int .u64 (uv (d.q 1)), .int .u64 (uv (d.q 2)), .int .u64 (uv (d.q 3)), .int .i64 d.lo, .int .i64 d.hi, .slice d.A d.n d.c, .int .i64 e.op, .int .u64 (uv (e.q 0)), .int .u64 (uv (e.q 1)), .int .u64 (uv (e.q 2)), .int .u64 (uv (e.q 3)), .int .i64 e.lo, .int .i64 e.hi, .slice e.A e.n e.c] 29) (.cells #[.int .i64 6, .int .u64 0, .int .u64 0, .int .u64 0, .int .u64 0, .int .i64 0, .int .i64 0, .slice (some ⟨w8.heap.size, 0, none⟩) 2 2] 29) (.cells #[.int .i64 d.op, .int .u64 (uv (d.q 0)), .int .u64 (uv (d.q 1)), .int .u64 (uv (d.q 2)), .int .u64 (uv (d.q 3)), .int .i64 d.lo, .int .i64 d.hi, .slice d.A d.n d.c, .int .i64 e.op, .int .u64 (uv (e.q 0)), .int .u64 (uv (e.q 1)), .int .u64 (uv (e.q 2)), .int .u64 (uv (e.q 3)), .int .i64 e.lo, .int .i64 e.hi, .slice e.A e.n e.c] 29) (.cells #[.int .i64 7, .int .u64 0, .int .u64 0, .int .u64 0, .int .u64 0, .int .i64 0, .int .i64 0, .slice (some ⟨w8.heap.size + 1 + 1, 0, none⟩) 2 2] 29)
    have t1 := C8.out.1.to hb
    have t2 := C8.out.2.to hb
    exact ⟨t1, t2, ⟨t1.bel, TR.pair t1.tr t2.tr h1 6 0 0, h2⟩, ⟨t1.bel, TR.pair t1.tr t2.tr h3 7 0 0, h4⟩⟩
  have D := Lib.hid (spanwhole_any _ _ _ F9.out.2.2.1.tr (ok_two 6 (.inl rfl) Ot.out Ou.out))
  clear C8
  unfold TD.val at D
  go_wp2_with fail
  refine D.out.mono ?_
  rintro en w10 ⟨rfl, hb⟩
  have F10 := step_fo F9 hb
  clear F9 D hb x0 x1 x2 x3 x4 x5 x6 x7 y0 y1 y2 y3 y4 y5 y6 y7 lt8 mt8
  have D := Lib.hid (spanwhole_any _ _ _ F10.out.2.2.2.tr (ok_two 7 (.inr rfl) Ot.out Ou.out))
  obtain ⟨⟨x0, x1, x2, x3, x4, x5, x6, x7⟩, -⟩ := F10.out.2.2.2.tb.all
  unfold TD.val at D
  go_wp2_with fail
  refine D.out.mono ?_
  rintro en w11 ⟨rfl, hb⟩
  have F11 := step_fo F10 hb
  clear F10 D hb x0 x1 x2 x3 x4 x5 x6 x7
  have dr : Below w11.heap.size w11 w11.drew := (Below.refl _ _).drew
  have F11d := step_fo F11 dr
  have Pt : Hid (∀ W : World, Hid (Fo w w.heap.size (w.heap.size + 1) (w8.heap.size + 1) (w8.heap.size + 1 + 1 + 1) t u d e ⟨6, fun _ => 0#64, 0, 0, some ⟨w8.heap.size, 0, none⟩, 2, 2⟩ ⟨7, fun _ => 0#64, 0, 0, some ⟨w8.heap.size + 1 + 1, 0, none⟩, 2, 2⟩ W) → Calls Try.prog 22 #[d.val] W (Tells W (.int .i64 (posT t)))) := fun W h => positions_any _ _ W h.out.1.tr Ot.out
  have Pu : Hid (∀ W : World, Hid (Fo w w.heap.size (w.heap.size + 1) (w8.heap.size + 1) (w8.heap.size + 1 + 1 + 1) t u d e ⟨6, fun _ => 0#64, 0, 0, some ⟨w8.heap.size, 0, none⟩, 2, 2⟩ ⟨7, fun _ => 0#64, 0, 0, some ⟨w8.heap.size + 1 + 1, 0, none⟩, 2, 2⟩ W) → Calls Try.prog 22 #[e.val] W (Tells W (.int .i64 (posT u)))) := fun W h => positions_any _ _ W h.out.2.1.tr Ou.out
  have Pc : Hid (∀ W : World, Hid (Fo w w.heap.size (w.heap.size + 1) (w8.heap.size + 1) (w8.heap.size + 1 + 1 + 1) t u d e ⟨6, fun _ => 0#64, 0, 0, some ⟨w8.heap.size, 0, none⟩, 2, 2⟩ ⟨7, fun _ => 0#64, 0, 0, some ⟨w8.heap.size + 1 + 1, 0, none⟩, 2, 2⟩ W) → Calls Try.prog 22 #[TD.val ⟨6, fun _ => 0#64, 0, 0, some ⟨w8.heap.size, 0, none⟩, 2, 2⟩] W (Tells W (.int .i64 (posT (.mk 6 noB 0 0 [t, u]))))) := fun W h => positions_any _ _ W h.out.2.2.1.tr (ok_two 6 (.inl rfl) Ot.out Ou.out)
  have Pa : Hid (∀ W : World, Hid (Fo w w.heap.size (w.heap.size + 1) (w8.heap.size + 1) (w8.heap.size + 1 + 1 + 1) t u d e ⟨6, fun _ => 0#64, 0, 0, some ⟨w8.heap.size, 0, none⟩, 2, 2⟩ ⟨7, fun _ => 0#64, 0, 0, some ⟨w8.heap.size + 1 + 1, 0, none⟩, 2, 2⟩ W) → Calls Try.prog 22 #[TD.val ⟨7, fun _ => 0#64, 0, 0, some ⟨w8.heap.size + 1 + 1, 0, none⟩, 2, 2⟩] W (Tells W (.int .i64 (posT (.mk 6 noB 0 0 [t, u]))))) := fun W h => by
    have D := positions_any _ _ W h.out.2.2.2.tr (ok_two 7 (.inr rfl) Ot.out Ou.out)
    rw [pos_two 7 (.inr rfl) t u Ot.out, ← pos_two 6 (.inl rfl) t u Ot.out] at D
    exact D
  obtain ⟨⟨x0, x1, x2, x3, x4, x5, x6, x7⟩, -⟩ := F11.out.2.2.2.tb.all
  obtain ⟨⟨y0, y1, y2, y3, y4, y5, y6, y7⟩, -⟩ := F11.out.2.2.1.tb.all
  obtain ⟨f1, f2, f3⟩ := sums_facts t u Ot.out Ou.out
  have FA := Lib.hid f3
  have kt := Hkt.out
  clear Hkt
  have ku := Hku.out
  clear Hku
  have hx := HX.out
  have hy := HY.out
  clear HX HY f3 F11 Ot Ou dr Ft Fu
  unfold TD.val at Pt Pu Pc Pa
  generalize posT (.mk 6 noB 0 0 [t, u]) = pc at *
  generalize posT t = pt at *
  generalize posT u = pu at *
  generalize (spanT (.mk 6 noB 0 0 [t, u])).l = cl at *
  generalize (spanT (.mk 6 noB 0 0 [t, u])).m = cm at *
  generalize (spanT (.mk 6 noB 0 0 [t, u])).a = ca at *
  generalize (spanT (.mk 7 noB 0 0 [t, u])).l = al at *
  generalize (spanT (.mk 7 noB 0 0 [t, u])).m = am at *
  generalize (spanT (.mk 7 noB 0 0 [t, u])).a = aa at *
  generalize (spanT t).l = xl at *
  generalize (spanT t).m = xm at *
  generalize (spanT t).a = xa at *
  generalize (spanT u).l = yl at *
  generalize (spanT u).m = ym at *
  generalize (spanT u).a = ya at *
  subst hx hy
  subst f1 f2
  go_wp2_with fail
  first
  | go_region_held (fun w' => w'.cell? ⟨w8.heap.size + 1, 0, none⟩ = some (.int .i64 6) ∧ w'.cell? ⟨w8.heap.size + 1, 1, none⟩ = some (.int .u64 0) ∧ w'.cell? ⟨w8.heap.size + 1, 2, none⟩ = some (.int .u64 0) ∧ w'.cell? ⟨w8.heap.size + 1, 3, none⟩ = some (.int .u64 0) ∧ w'.cell? ⟨w8.heap.size + 1, 4, none⟩ = some (.int .u64 0) ∧ w'.cell? ⟨w8.heap.size + 1, 5, none⟩ = some (.int .i64 0) ∧ w'.cell? ⟨w8.heap.size + 1, 6, none⟩ = some (.int .i64 0) ∧ w'.cell? ⟨w8.heap.size + 1, 7, none⟩ = some (.slice (some ⟨w8.heap.size, 0, none⟩) 2 2) ∧ w'.cell? ⟨w8.heap.size + 1 + 1 + 1, 0, none⟩ = some (.int .i64 7) ∧ w'.cell? ⟨w8.heap.size + 1 + 1 + 1, 1, none⟩ = some (.int .u64 0) ∧ w'.cell? ⟨w8.heap.size + 1 + 1 + 1, 2, none⟩ = some (.int .u64 0) ∧ w'.cell? ⟨w8.heap.size + 1 + 1 + 1, 3, none⟩ = some (.int .u64 0) ∧ w'.cell? ⟨w8.heap.size + 1 + 1 + 1, 4, none⟩ = some (.int .u64 0) ∧ w'.cell? ⟨w8.heap.size + 1 + 1 + 1, 5, none⟩ = some (.int .i64 0) ∧ w'.cell? ⟨w8.heap.size + 1 + 1 + 1, 6, none⟩ = some (.int .i64 0) ∧ w'.cell? ⟨w8.heap.size + 1 + 1 + 1, 7, none⟩ = some (.slice (some ⟨w8.heap.size + 1 + 1, 0, none⟩) 2 2))
      (first | assumption | exact ⟨by assumption, by assumption, by assumption, by assumption, by assumption, by assumption, by assumption, by assumption, by assumption, by assumption, by assumption, by assumption, by assumption, by assumption, by assumption, by assumption⟩ | go_keep)
      (first
        | (go_at_call_of 22 d.op; refine (Pt.out _ (by assumption)).mono ?_; rintro en wn ⟨rfl, hb⟩; have K8 := step_fo (by assumption) hb; clear hb; obtain ⟨⟨_, _, _, _, _, _, _, _⟩, -⟩ := K8.out.1.tb.all; obtain ⟨⟨_, _, _, _, _, _, _, _⟩, -⟩ := K8.out.2.1.tb.all; obtain ⟨⟨_, _, _, _, _, _, _, _⟩, -⟩ := K8.out.2.2.1.tb.all; obtain ⟨⟨_, _, _, _, _, _, _, _⟩, -⟩ := K8.out.2.2.2.tb.all)
        | (go_at_call_of 22 e.op; refine (Pu.out _ (by assumption)).mono ?_; rintro en wn ⟨rfl, hb⟩; have K8 := step_fo (by assumption) hb; clear hb; obtain ⟨⟨_, _, _, _, _, _, _, _⟩, -⟩ := K8.out.1.tb.all; obtain ⟨⟨_, _, _, _, _, _, _, _⟩, -⟩ := K8.out.2.1.tb.all; obtain ⟨⟨_, _, _, _, _, _, _, _⟩, -⟩ := K8.out.2.2.1.tb.all; obtain ⟨⟨_, _, _, _, _, _, _, _⟩, -⟩ := K8.out.2.2.2.tb.all)
        | (go_at_call_of 22 (Value.int IntKind.i64 6); refine (Pc.out _ (by assumption)).mono ?_; rintro en wn ⟨rfl, hb⟩; have K8 := step_fo (by assumption) hb; clear hb; obtain ⟨⟨_, _, _, _, _, _, _, _⟩, -⟩ := K8.out.1.tb.all; obtain ⟨⟨_, _, _, _, _, _, _, _⟩, -⟩ := K8.out.2.1.tb.all; obtain ⟨⟨_, _, _, _, _, _, _, _⟩, -⟩ := K8.out.2.2.1.tb.all; obtain ⟨⟨_, _, _, _, _, _, _, _⟩, -⟩ := K8.out.2.2.2.tb.all)
        | (go_at_call_of 22 (Value.int IntKind.i64 7); refine (Pa.out _ (by assumption)).mono ?_; rintro en wn ⟨rfl, hb⟩; have K8 := step_fo (by assumption) hb; clear hb; obtain ⟨⟨_, _, _, _, _, _, _, _⟩, -⟩ := K8.out.1.tb.all; obtain ⟨⟨_, _, _, _, _, _, _, _⟩, -⟩ := K8.out.2.1.tb.all; obtain ⟨⟨_, _, _, _, _, _, _, _⟩, -⟩ := K8.out.2.2.1.tb.all; obtain ⟨⟨_, _, _, _, _, _, _, _⟩, -⟩ := K8.out.2.2.2.tb.all)
        | fail)
  | fail
  clear x0 x1 x2 x3 x4 x5 x6 x7 y0 y1 y2 y3 y4 y5 y6 y7 F11d
  by_cases q1 : 549755813888 < xl
  · go_wp2
    go_ret
    exact ⟨rfl, K8.out.1.bel⟩
  by_cases q2 : 549755813888 < xm
  · go_wp2
    go_ret
    exact ⟨rfl, K8.out.1.bel⟩
  by_cases q3 : 549755813888 < yl
  · go_wp2
    go_ret
    exact ⟨rfl, K8.out.1.bel⟩
  by_cases q4 : 549755813888 < ym
  · go_wp2
    go_ret
    exact ⟨rfl, K8.out.1.bel⟩
  go_wp2_with fail
  refine (Pt.out _ K8).mono ?_
  rintro en wa ⟨rfl, hb⟩
  have K9 := step_fo K8 hb
  clear hb K8
  obtain ⟨⟨x0, x1, x2, x3, x4, x5, x6, x7⟩, -⟩ := K9.out.1.tb.all
  obtain ⟨⟨y0, y1, y2, y3, y4, y5, y6, y7⟩, -⟩ := K9.out.2.1.tb.all
  by_cases q5 : 549755813888 < pt
  · go_wp2
    go_ret
    exact ⟨rfl, K9.out.1.bel⟩
  go_wp2_with fail
  refine (Pu.out _ K9).mono ?_
  rintro en wb ⟨rfl, hb⟩
  have KA := step_fo K9 hb
  clear hb K9 x0 x1 x2 x3 x4 x5 x6 x7 y0 y1 y2 y3 y4 y5 y6 y7
  obtain ⟨⟨x0, x1, x2, x3, x4, x5, x6, x7⟩, -⟩ := KA.out.1.tb.all
  obtain ⟨⟨y0, y1, y2, y3, y4, y5, y6, y7⟩, -⟩ := KA.out.2.1.tb.all
  by_cases q6 : 549755813888 < pu
  · go_wp2
    go_ret
    exact ⟨rfl, KA.out.1.bel⟩
  obtain ⟨g1, g2, g3⟩ := FA.out (by omega) (by omega) (by omega) (by omega) (by omega) (by omega)
  have g4 : (pc == IntKind.i64.wrap (pt + pu)) = true := by rw [g3]; exact beq_self_eq_true pc
  clear FA
  have KD := step_fo KA (Below.refl _ _).drew
  have hud : undef = Value.tuple #[] := rfl
  obtain ⟨⟨z0, z1, z2, z3, z4, z5, z6, z7⟩, -⟩ := KA.out.2.2.1.tb.all
  obtain ⟨e1, e2, e3⟩ := g1 (by simp) (by simp)
  clear g1 g2
  rw [wrapEq] at e1
  have e6 : (if yl < xl then yl else xl) = al := by rw [← e2]; split <;> omega
  have e7 : (al != if yl < xl then yl else xl) = false := by rw [e6]; simp
  clear e2
  rcases e3 with ⟨m1, m2⟩ | ⟨m1, m2, m3⟩ | ⟨m1, m2, m3, m4⟩
  · exact absurd m1 (by omega)
  · skip
    obtain ⟨zz, hz⟩ : ∃ zz, wrap64 (xm + ym) = zz := ⟨_, rfl⟩
    rcases Bool.eq_false_or_eq_true (cm != zz) with m5 | m5
    all_goals
      go_wp2_with fail
      first
      | go_region_held (fun w' => w'.cell? ⟨w8.heap.size + 1, 0, none⟩ = some (.int .i64 6) ∧ w'.cell? ⟨w8.heap.size + 1, 1, none⟩ = some (.int .u64 0) ∧ w'.cell? ⟨w8.heap.size + 1, 2, none⟩ = some (.int .u64 0) ∧ w'.cell? ⟨w8.heap.size + 1, 3, none⟩ = some (.int .u64 0) ∧ w'.cell? ⟨w8.heap.size + 1, 4, none⟩ = some (.int .u64 0) ∧ w'.cell? ⟨w8.heap.size + 1, 5, none⟩ = some (.int .i64 0) ∧ w'.cell? ⟨w8.heap.size + 1, 6, none⟩ = some (.int .i64 0) ∧ w'.cell? ⟨w8.heap.size + 1, 7, none⟩ = some (.slice (some ⟨w8.heap.size, 0, none⟩) 2 2) ∧ w'.cell? ⟨w.heap.size, 0, none⟩ = some (.int .i64 d.op) ∧ w'.cell? ⟨w.heap.size, 1, none⟩ = some (.int .u64 (uv (d.q 0))) ∧ w'.cell? ⟨w.heap.size, 2, none⟩ = some (.int .u64 (uv (d.q 1))) ∧ w'.cell? ⟨w.heap.size, 3, none⟩ = some (.int .u64 (uv (d.q 2))) ∧ w'.cell? ⟨w.heap.size, 4, none⟩ = some (.int .u64 (uv (d.q 3))) ∧ w'.cell? ⟨w.heap.size, 5, none⟩ = some (.int .i64 d.lo) ∧ w'.cell? ⟨w.heap.size, 6, none⟩ = some (.int .i64 d.hi) ∧ w'.cell? ⟨w.heap.size, 7, none⟩ = some (.slice d.A d.n d.c) ∧ w'.cell? ⟨w.heap.size + 1, 0, none⟩ = some (.int .i64 e.op) ∧ w'.cell? ⟨w.heap.size + 1, 1, none⟩ = some (.int .u64 (uv (e.q 0))) ∧ w'.cell? ⟨w.heap.size + 1, 2, none⟩ = some (.int .u64 (uv (e.q 1))) ∧ w'.cell? ⟨w.heap.size + 1, 3, none⟩ = some (.int .u64 (uv (e.q 2))) ∧ w'.cell? ⟨w.heap.size + 1, 4, none⟩ = some (.int .u64 (uv (e.q 3))) ∧ w'.cell? ⟨w.heap.size + 1, 5, none⟩ = some (.int .i64 e.lo) ∧ w'.cell? ⟨w.heap.size + 1, 6, none⟩ = some (.int .i64 e.hi) ∧ w'.cell? ⟨w.heap.size + 1, 7, none⟩ = some (.slice e.A e.n e.c))
          (first | assumption | exact ⟨by assumption, by assumption, by assumption, by assumption, by assumption, by assumption, by assumption, by assumption, by assumption, by assumption, by assumption, by assumption, by assumption, by assumption, by assumption, by assumption, by assumption, by assumption, by assumption, by assumption, by assumption, by assumption, by assumption, by assumption⟩ | go_keep)
          (first
            | (go_at_call_of 22 d.op; refine (Pt.out _ (by assumption)).mono ?_; rintro en wn ⟨rfl, hb⟩; have K8 := step_fo (by assumption) hb; clear hb; obtain ⟨⟨_, _, _, _, _, _, _, _⟩, -⟩ := K8.out.1.tb.all; obtain ⟨⟨_, _, _, _, _, _, _, _⟩, -⟩ := K8.out.2.1.tb.all; obtain ⟨⟨_, _, _, _, _, _, _, _⟩, -⟩ := K8.out.2.2.1.tb.all; obtain ⟨⟨_, _, _, _, _, _, _, _⟩, -⟩ := K8.out.2.2.2.tb.all)
            | (go_at_call_of 22 e.op; refine (Pu.out _ (by assumption)).mono ?_; rintro en wn ⟨rfl, hb⟩; have K8 := step_fo (by assumption) hb; clear hb; obtain ⟨⟨_, _, _, _, _, _, _, _⟩, -⟩ := K8.out.1.tb.all; obtain ⟨⟨_, _, _, _, _, _, _, _⟩, -⟩ := K8.out.2.1.tb.all; obtain ⟨⟨_, _, _, _, _, _, _, _⟩, -⟩ := K8.out.2.2.1.tb.all; obtain ⟨⟨_, _, _, _, _, _, _, _⟩, -⟩ := K8.out.2.2.2.tb.all)
            | (go_at_call_of 22 (Value.int IntKind.i64 6); refine (Pc.out _ (by assumption)).mono ?_; rintro en wn ⟨rfl, hb⟩; have K8 := step_fo (by assumption) hb; clear hb; obtain ⟨⟨_, _, _, _, _, _, _, _⟩, -⟩ := K8.out.1.tb.all; obtain ⟨⟨_, _, _, _, _, _, _, _⟩, -⟩ := K8.out.2.1.tb.all; obtain ⟨⟨_, _, _, _, _, _, _, _⟩, -⟩ := K8.out.2.2.1.tb.all; obtain ⟨⟨_, _, _, _, _, _, _, _⟩, -⟩ := K8.out.2.2.2.tb.all)
            | (go_at_call_of 22 (Value.int IntKind.i64 7); refine (Pa.out _ (by assumption)).mono ?_; rintro en wn ⟨rfl, hb⟩; have K8 := step_fo (by assumption) hb; clear hb; obtain ⟨⟨_, _, _, _, _, _, _, _⟩, -⟩ := K8.out.1.tb.all; obtain ⟨⟨_, _, _, _, _, _, _, _⟩, -⟩ := K8.out.2.1.tb.all; obtain ⟨⟨_, _, _, _, _, _, _, _⟩, -⟩ := K8.out.2.2.1.tb.all; obtain ⟨⟨_, _, _, _, _, _, _, _⟩, -⟩ := K8.out.2.2.2.tb.all)
            | fail)
      | fail
      all_goals
        go_wp2
        go_ret
        exact ⟨rfl, K8.out.1.bel⟩
  · exact absurd m2 (by omega)
end Go.Proofs.Ytnaecagmcpndhaa
