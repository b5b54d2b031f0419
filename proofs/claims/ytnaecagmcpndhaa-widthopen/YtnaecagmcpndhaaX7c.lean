/- A term any number of times: the walk of WidthOpen, one case of three. -/
import Derived.Test.YtnaecagmcpndhaaX6c
import Derived.Deep.RegionHeld3
namespace Go.Proofs.Ytnaecagmcpndhaa
open Go.RowKit
set_option maxRecDepth 100000 in
set_option maxHeartbeats 8000000 in
theorem open_walk_c (t : Tm) (d : TD) (w : World) (ht : TR w t d) (M : Int) (hspan : spanT (.mk 8 noB 0 (-1) [t]) = ⟨0, M, true⟩) (hcase : (spanT t).a = true ∧ ¬ (spanT t).m = 0 ∧ M = -1) : Calls Try.prog 12 #[d.val] w (Tells w (.bool true)) := by
  have C1 : Hid (Cx w (w.alloc (.cells d.cells 29)) w.heap.size t d) := ⟨below_new w _, ht.keeps (below_new w _), TB.new w d⟩
  have D1 := Lib.hid (speaks7_any (w.alloc (.cells d.cells 29)))
  unfold TD.cells at C1 D1
  unfold TD.val
  have HS := Lib.hid hspan
  have HC := Lib.hid hcase
  clear ht hspan hcase
  go_enter Try.func12, Try.ntmps12
  go_wp2_with fail
  refine D1.out.mono ?_
  rintro e w2 ⟨rfl, hb2⟩
  have C2 := Lib.hid (C1.out.to hb2)
  have D2 := Lib.hid (great_few t d w2 C2.out.tr)
  obtain ⟨⟨x0, x1, x2, x3, x4, x5, x6, x7⟩, -⟩ := C2.out.tb.all
  clear C1 D1 hb2
  unfold TD.val at D2
  go_wp2_with fail
  refine D2.out.mono ?_
  rintro e w3 ⟨b3, rfl, hf3, hb3⟩
  have C3 := Lib.hid (C2.out.to hb3)
  clear C2 D2 hb3 x0 x1 x2 x3 x4 x5 x6 x7
  obtain ⟨⟨x0, x1, x2, x3, x4, x5, x6, x7⟩, -⟩ := C3.out.tb.all
  cases b3 with
  | true =>
    go_wp2
    go_ret
    exact ⟨rfl, C3.out.bel⟩
  | false =>
  have D3 := Lib.hid (right7_any t d w3 C3.out.tr (hf3 rfl))
  clear hf3
  unfold TD.val at D3
  go_wp2_with fail
  refine D3.out.mono ?_
  rintro e w4 ⟨b4, rfl, hr4, hb4⟩
  have C4 := Lib.hid (C3.out.to hb4)
  clear C3 D3 hb4 x0 x1 x2 x3 x4 x5 x6 x7
  obtain ⟨⟨x0, x1, x2, x3, x4, x5, x6, x7⟩, -⟩ := C4.out.tb.all
  cases b4 with
  | false =>
    go_wp2
    go_ret
    exact ⟨rfl, C4.out.bel⟩
  | true =>
  have OK := Lib.hid (Rt.ok t (hr4 rfl))
  clear hr4
  have D4 := Lib.hid (spanwhole_any t d w4 C4.out.tr OK.out)
  unfold TD.val at D4
  go_wp2_with fail
  refine D4.out.mono ?_
  rintro e w5 ⟨rfl, hb5⟩
  have C5 := Lib.hid (C4.out.to hb5)
  clear C4 D4 hb5 x0 x1 x2 x3 x4 x5 x6 x7
  obtain ⟨⟨x0, x1, x2, x3, x4, x5, x6, x7⟩, -⟩ := C5.out.tb.all
  have lt5 := C5.out.tb.lt
  have S6 : Hid (Cx w ((w5.alloc (.cells d.cells 29)).alloc (.cells #[.int .i64 8, .int .u64 0, .int .u64 0, .int .u64 0, .int .u64 0, .int .i64 0, .int .i64 (-1), .slice (some ⟨w5.heap.size, 0, none⟩) 1 1] 29)) (w5.heap.size + 1) (.mk 8 noB 0 (-1) [t]) ⟨8, fun _ => 0#64, 0, -1, some ⟨w5.heap.size, 0, none⟩, 1, 1⟩) := by
    have hb := nb2 w5 (.cells d.cells 29) (.cells #[.int .i64 8, .int .u64 0, .int .u64 0, .int .u64 0, .int .u64 0, .int .i64 0, .int .i64 (-1), .slice (some ⟨w5.heap.size, 0, none⟩) 1 1] 29)
    refine ⟨C5.out.bel.trans (hb.mono C5.out.bel.size), TR.one (C5.out.tr.keeps hb) ((TB.new w5 d).alloc _) 8 0 (-1), ?_⟩
    have h := heap_alloc_new (w5.alloc (.cells d.cells 29)) (.cells #[.int .i64 8, .int .u64 0, .int .u64 0, .int .u64 0, .int .u64 0, .int .i64 0, .int .i64 (-1), .slice (some ⟨w5.heap.size, 0, none⟩) 1 1] 29)
    rw [World.size_alloc] at h
    exact h
  have OK2 := Lib.hid (ok_one 0 (-1) OK.out (by omega))
  have C6 := Lib.hid (C5.out.to (nb2 w5 (.cells d.cells 29) (.cells #[.int .i64 8, .int .u64 0, .int .u64 0, .int .u64 0, .int .u64 0, .int .i64 0, .int .i64 (-1), .slice (some ⟨w5.heap.size, 0, none⟩) 1 1] 29)))
  have D6 := spanwhole_any _ _ _ S6.out.tr OK2.out
  rw [HS.out] at D6
  have D6 := Lib.hid D6
  clear C5
  have hcase := HC.out
  clear HC
  unfold TD.cells at C6 D6 S6
  unfold TD.val at D6
  generalize (spanT t).a = xa at *
  generalize (spanT t).m = xm at *
  generalize (spanT t).l = xl at *
  go_wp2_with fail
  refine D6.out.mono ?_
  rintro e w7 ⟨rfl, hb7⟩
  have C7 := Lib.hid (C6.out.to hb7)
  have S7 := Lib.hid (S6.out.to hb7)
  have dr : Below w7.heap.size w7 w7.drew := (Below.refl _ _).drew
  have K7 : Hid (Bo w w.heap.size (w5.heap.size + 1) t (.mk 8 noB 0 (-1) [t]) d ⟨8, fun _ => 0#64, 0, -1, some ⟨w5.heap.size, 0, none⟩, 1, 1⟩ w7.drew) := ⟨C7.out.to dr, S7.out.to dr⟩
  have N1 : Hid (∀ W : World, Hid (Bo w w.heap.size (w5.heap.size + 1) t (.mk 8 noB 0 (-1) [t]) d ⟨8, fun _ => 0#64, 0, -1, some ⟨w5.heap.size, 0, none⟩, 1, 1⟩ W) → Calls Try.prog 24 #[TD.val ⟨8, fun _ => 0#64, 0, -1, some ⟨w5.heap.size, 0, none⟩, 1, 1⟩] W (Tells W (.bool true))) := fun W h => by
    have D := nullable_any _ _ W h.out.2.tr OK2.out
    rw [HS.out] at D
    exact D
  have P1 : Hid (∀ W : World, Hid (Bo w w.heap.size (w5.heap.size + 1) t (.mk 8 noB 0 (-1) [t]) d ⟨8, fun _ => 0#64, 0, -1, some ⟨w5.heap.size, 0, none⟩, 1, 1⟩ W) → Calls Try.prog 22 #[TD.val ⟨8, fun _ => 0#64, 0, -1, some ⟨w5.heap.size, 0, none⟩, 1, 1⟩] W (Tells W (.int .i64 (posT t)))) := fun W h => by
    have D := positions_any _ _ W h.out.2.tr OK2.out
    rw [pos_star t OK.out] at D
    exact D
  have P2 : Hid (∀ W : World, Hid (Bo w w.heap.size (w5.heap.size + 1) t (.mk 8 noB 0 (-1) [t]) d ⟨8, fun _ => 0#64, 0, -1, some ⟨w5.heap.size, 0, none⟩, 1, 1⟩ W) → Calls Try.prog 22 #[d.val] W (Tells W (.int .i64 (posT t)))) := fun W h => positions_any _ _ W h.out.1.tr OK.out
  have A1 : Hid (∀ W : World, Hid (Bo w w.heap.size (w5.heap.size + 1) t (.mk 8 noB 0 (-1) [t]) d ⟨8, fun _ => 0#64, 0, -1, some ⟨w5.heap.size, 0, none⟩, 1, 1⟩ W) → Calls Try.prog 23 #[TD.val ⟨8, fun _ => 0#64, 0, -1, some ⟨w5.heap.size, 0, none⟩, 1, 1⟩] W (Tells W (.bool (ancT t)))) := fun W h => by
    have D := anchored_any _ _ W h.out.2.tr
    rw [anc_one t] at D
    exact D
  have A2 : Hid (∀ W : World, Hid (Bo w w.heap.size (w5.heap.size + 1) t (.mk 8 noB 0 (-1) [t]) d ⟨8, fun _ => 0#64, 0, -1, some ⟨w5.heap.size, 0, none⟩, 1, 1⟩ W) → Calls Try.prog 23 #[d.val] W (Tells W (.bool (ancT t)))) := fun W h => anchored_any _ _ W h.out.1.tr
  clear C6 S6 D6 hb7 x0 x1 x2 x3 x4 x5 x6 x7 lt5 dr OK OK2 HS
  obtain ⟨⟨x0, x1, x2, x3, x4, x5, x6, x7⟩, -⟩ := S7.out.tb.all
  obtain ⟨⟨y0, y1, y2, y3, y4, y5, y6, y7⟩, -⟩ := C7.out.tb.all
  clear C7 S7
  unfold TD.val at N1 P1 P2 A1 A2
  generalize posT t = pp at *
  generalize ancT t = aa at *
  obtain ⟨rfl, hm, rfl⟩ := hcase
  have hm1 : (xm != 0) = true := by simp [hm]
  have hm2 : (xm == 0) = false := by simp [hm]
  go_wp2_with fail
  go_region_held3 (fun w' => w'.cell? ⟨w.heap.size, 0, none⟩ = some (.int .i64 d.op) ∧ w'.cell? ⟨w.heap.size, 1, none⟩ = some (.int .u64 (uv (d.q 0))) ∧ w'.cell? ⟨w.heap.size, 2, none⟩ = some (.int .u64 (uv (d.q 1))) ∧ w'.cell? ⟨w.heap.size, 3, none⟩ = some (.int .u64 (uv (d.q 2))) ∧ w'.cell? ⟨w.heap.size, 4, none⟩ = some (.int .u64 (uv (d.q 3))) ∧ w'.cell? ⟨w.heap.size, 5, none⟩ = some (.int .i64 d.lo) ∧ w'.cell? ⟨w.heap.size, 6, none⟩ = some (.int .i64 d.hi) ∧ w'.cell? ⟨w.heap.size, 7, none⟩ = some (.slice d.A d.n d.c) ∧ w'.cell? ⟨w5.heap.size + 1, 0, none⟩ = some (.int .i64 8) ∧ w'.cell? ⟨w5.heap.size + 1, 1, none⟩ = some (.int .u64 0) ∧ w'.cell? ⟨w5.heap.size + 1, 2, none⟩ = some (.int .u64 0) ∧ w'.cell? ⟨w5.heap.size + 1, 3, none⟩ = some (.int .u64 0) ∧ w'.cell? ⟨w5.heap.size + 1, 4, none⟩ = some (.int .u64 0) ∧ w'.cell? ⟨w5.heap.size + 1, 5, none⟩ = some (.int .i64 0) ∧ w'.cell? ⟨w5.heap.size + 1, 6, none⟩ = some (.int .i64 (-1)) ∧ w'.cell? ⟨w5.heap.size + 1, 7, none⟩ = some (.slice (some ⟨w5.heap.size, 0, none⟩) 1 1))
    (first | exact ⟨by assumption, by assumption, by assumption, by assumption, by assumption, by assumption, by assumption, by assumption, by assumption, by assumption, by assumption, by assumption, by assumption, by assumption, by assumption, by assumption⟩ | go_keep)
    (first
        | (go_at_call 24; refine (N1.out _ (by assumption)).mono ?_; rintro e wn ⟨rfl, hb⟩; have K8 := step_bo (by assumption) hb; clear hb; obtain ⟨⟨_, _, _, _, _, _, _, _⟩, -⟩ := K8.out.1.tb.all; obtain ⟨⟨_, _, _, _, _, _, _, _⟩, -⟩ := K8.out.2.tb.all)
        | (go_at_call_of 22 d.op; refine (P2.out _ (by assumption)).mono ?_; rintro e wn ⟨rfl, hb⟩; have K8 := step_bo (by assumption) hb; clear hb; obtain ⟨⟨_, _, _, _, _, _, _, _⟩, -⟩ := K8.out.1.tb.all; obtain ⟨⟨_, _, _, _, _, _, _, _⟩, -⟩ := K8.out.2.tb.all)
        | (go_at_call 22; refine (P1.out _ (by assumption)).mono ?_; rintro e wn ⟨rfl, hb⟩; have K8 := step_bo (by assumption) hb; clear hb; obtain ⟨⟨_, _, _, _, _, _, _, _⟩, -⟩ := K8.out.1.tb.all; obtain ⟨⟨_, _, _, _, _, _, _, _⟩, -⟩ := K8.out.2.tb.all)
        | (go_at_call_of 23 d.op; refine (A2.out _ (by assumption)).mono ?_; rintro e wn ⟨rfl, hb⟩; have K8 := step_bo (by assumption) hb; clear hb; obtain ⟨⟨_, _, _, _, _, _, _, _⟩, -⟩ := K8.out.1.tb.all; obtain ⟨⟨_, _, _, _, _, _, _, _⟩, -⟩ := K8.out.2.tb.all)
        | (go_at_call 23; refine (A1.out _ (by assumption)).mono ?_; rintro e wn ⟨rfl, hb⟩; have K8 := step_bo (by assumption) hb; clear hb; obtain ⟨⟨_, _, _, _, _, _, _, _⟩, -⟩ := K8.out.1.tb.all; obtain ⟨⟨_, _, _, _, _, _, _, _⟩, -⟩ := K8.out.2.tb.all)
        | fail)
  go_wp2
  go_ret
  exact ⟨rfl, K8.out.1.bel⟩
end Go.Proofs.Ytnaecagmcpndhaa
