/- The walk of WidthTells. -/
import Derived.Test.YtnaecagmcpndhaaX19
import Derived.Test.YtnaecagmcpndhaaX10
import Derived.Test.YtnaecagmcpndhaaX11
import Derived.Test.YtnaecagmcpndhaaJ16
namespace Go.Proofs.Ytnaecagmcpndhaa
open Go.RowKit
theorem A.ok_all (t : Tm) : A.Ok t := by
  induction t using Tm.ind with
  | h op f lo hi ks ih => exact .mk _ _ _ _ _ (fun _ => ⟨trivial, trivial⟩) (fun k hk => ih k hk)
theorem sameT_self (t : Tm) : sameT t t = true := by
  induction t using Tm.ind with
  | h op f lo hi ks ih =>
    have hL : ∀ l : List Tm, (∀ k ∈ l, sameT k k = true) → sameL l l = true := by
      intro l
      induction l with
      | nil => intro _; rw [sameL]
      | cons k r ihl => intro h; rw [sameL, h k (by simp), ihl fun y hy => h y (by simp [hy])]; rfl
    rw [sameT, hL ks ih]
    have e : eqK f f = true := (eqK_iff f f).2 fun _ _ => rfl
    simp [e]
set_option maxRecDepth 100000 in
set_option maxHeartbeats 8000000 in
theorem tells_walk (t : Tm) (d : TD) (w : World) (ht : TR w t d) : Calls Try.prog 9 #[d.val] w (Tells w (.bool true)) := by
  have C1 : Hid (Cx w (w.alloc (.cells d.cells 29)) w.heap.size t d) := ⟨below_new w _, ht.keeps (below_new w _), TB.new w d⟩
  have D1 := Lib.hid (speaks7_any (w.alloc (.cells d.cells 29)))
  unfold TD.cells at C1 D1
  unfold TD.val
  clear ht
  go_enter Try.func9, Try.ntmps9
  go_wp2_with fail
  refine D1.out.mono ?_
  rintro e w2 ⟨rfl, hb2⟩
  have C2 := Lib.hid (C1.out.to hb2)
  have D2 := Lib.hid (great_few t d w2 C2.out.tr)
  obtain ⟨⟨x0, x1, x2, x3, x4, x5, x6, x7⟩, -⟩ := C2.out.tb.all
  clear C1 D1 hb2
  unfold TD.val at D2
  go_wp2_with fail
  refine D2.out.mono ?_
  rintro e w3 ⟨b3, rfl, hf3, hb3⟩
  have C3 := Lib.hid (C2.out.to hb3)
  clear C2 D2 hb3 x0 x1 x2 x3 x4 x5 x6 x7
  obtain ⟨⟨x0, x1, x2, x3, x4, x5, x6, x7⟩, -⟩ := C3.out.tb.all
  cases b3 with
  | true =>
    go_wp2
    go_ret
    exact ⟨rfl, C3.out.bel⟩
  | false =>
  have FEW := Lib.hid (hf3 rfl)
  have D3 := Lib.hid (copy_any t d w3.heap.size w3 (Nat.le_refl _) C3.out.tr.inS FEW.out)
  clear hf3
  unfold TD.val at D3
  go_wp2_with fail
  refine D3.out.mono ?_
  rintro e w4 ⟨d4, rfl, hv4, hb4⟩
  have nb := below_new w4 (.cells d4.cells 29)
  have K4 : Hid (Bo w w.heap.size w4.heap.size t t d d4 (w4.alloc (.cells d4.cells 29))) := by
    have hb34 := hb4.trans (nb.mono hb4.size)
    exact ⟨C3.out.to hb34, ⟨C3.out.bel.trans (hb34.mono C3.out.bel.size), hv4.tr.keeps nb, TB.new w4 d4⟩⟩
  clear C3 D3 hb4 x0 x1 x2 x3 x4 x5 x6 x7 hv4 nb
  obtain ⟨⟨x0, x1, x2, x3, x4, x5, x6, x7⟩, -⟩ := K4.out.1.tb.all
  obtain ⟨⟨y0, y1, y2, y3, y4, y5, y6, y7⟩, -⟩ := K4.out.2.tb.all
  have D4 := Lib.hid (A.spanwhole_any t d4 _ K4.out.2.tr (A.ok_all t))
  have P22 : Hid (∀ W : World, Hid (Bo w w.heap.size w4.heap.size t t d d4 W) → Calls Try.prog 22 #[d4.val] W (Tells W (.int .i64 (A.posT t)))) := fun W h => A.positions_any t d4 W h.out.2.tr (A.ok_all t)
  have P23 : Hid (∀ W : World, Hid (Bo w w.heap.size w4.heap.size t t d d4 W) → Calls Try.prog 23 #[d4.val] W (Tells W (.bool (ancT t)))) := fun W h => anchored_any t d4 W h.out.2.tr
  have P24 : Hid (∀ W : World, Hid (Bo w w.heap.size w4.heap.size t t d d4 W) → Calls Try.prog 24 #[d4.val] W (Tells W (.bool ((A.spanT t).a && ((A.spanT t).l == 0))))) := fun W h => A.nullable_any t d4 W h.out.2.tr (A.ok_all t)
  have P26 : Hid (Rt (woT t) → ∀ W : World, Hid (Bo w w.heap.size w4.heap.size t t d d4 W) → Calls Try.prog 26 #[d.val] W (Tells W (.tuple #[.int .i64 (A.spanT t).l, .int .i64 (A.spanT t).m, .bool (A.spanT t).a]))) := fun hr W h => by
    rw [span_same t (Rt.ok t hr)]; exact spanref_any t d W h.out.1.tr hr
  have P27 : Hid (Rt (woT t) → ∀ W : World, Hid (Bo w w.heap.size w4.heap.size t t d d4 W) → Calls Try.prog 27 #[d.val] W (Tells W (.int .i64 (A.posT t)))) := fun hr W h => by
    rw [pos_same t (Rt.ok t hr)]; exact posref_any t d W h.out.1.tr (Rt.ok t hr)
  have P28 : Hid (∀ W : World, Hid (Bo w w.heap.size w4.heap.size t t d d4 W) → Calls Try.prog 28 #[d.val] W (Tells W (.bool (ancT t)))) := fun W h => ancref_any t d W h.out.1.tr
  have P29 : Hid (Rt (woT t) → ∀ W : World, Hid (Bo w w.heap.size w4.heap.size t t d d4 W) → Calls Try.prog 29 #[d.val] W (Tells W (.bool ((A.spanT t).a && ((A.spanT t).l == 0))))) := fun hr W h => by
    rw [span_same t (Rt.ok t hr)]; exact nullref_any t d W h.out.1.tr hr
  have P16 : Hid (∀ W : World, Hid (Bo w w.heap.size w4.heap.size t t d d4 W) → Calls Try.prog 16 #[d4.val, d.val] W (Tells W (.bool true))) := fun W h => by
    have := same_any t t d4 d W h.out.2.tr h.out.1.tr
    rw [sameT_self t] at this; exact this
  have P25 : Hid (∀ W : World, Hid (Bo w w.heap.size w4.heap.size t t d d4 W) → Calls Try.prog 25 #[d.val] W (fun e w' => ∃ b : Bool, e = .returned (.bool b) ∧ (b = true → Rt (woT t)) ∧ Below W.heap.size W w')) := fun W h => right7_any t d W h.out.1.tr FEW.out
  clear FEW
  generalize (A.spanT t).l = al at *
  generalize (A.spanT t).m = am at *
  generalize (A.spanT t).a = aa at *
  generalize A.posT t = ap at *
  generalize ancT t = an at *
  generalize hnu : (aa && (al == 0)) = nu at *
  clear hnu
  unfold TD.val TD.cells at *
  go_wp2_with fail
  refine D4.out.mono ?_
  rintro e w5 ⟨rfl, hb5⟩
  have K5 := step_bo K4 hb5
  have K5d := step_bo K5 (Below.refl w5.heap.size w5).drew
  clear K4 D4 hb5 x0 x1 x2 x3 x4 x5 x6 x7 y0 y1 y2 y3 y4 y5 y6 y7
  obtain ⟨⟨x0, x1, x2, x3, x4, x5, x6, x7⟩, -⟩ := K5.out.1.tb.all
  obtain ⟨⟨y0, y1, y2, y3, y4, y5, y6, y7⟩, -⟩ := K5.out.2.tb.all
  clear K5
  go_wp2_with fail
  go_region_held3 (fun w' => w'.cell? ⟨w4.heap.size, 0, none⟩ = some (.int .i64 d4.op) ∧ w'.cell? ⟨w4.heap.size, 1, none⟩ = some (.int .u64 (uv (d4.q 0))) ∧ w'.cell? ⟨w4.heap.size, 2, none⟩ = some (.int .u64 (uv (d4.q 1))) ∧ w'.cell? ⟨w4.heap.size, 3, none⟩ = some (.int .u64 (uv (d4.q 2))) ∧ w'.cell? ⟨w4.heap.size, 4, none⟩ = some (.int .u64 (uv (d4.q 3))) ∧ w'.cell? ⟨w4.heap.size, 5, none⟩ = some (.int .i64 d4.lo) ∧ w'.cell? ⟨w4.heap.size, 6, none⟩ = some (.int .i64 d4.hi) ∧ w'.cell? ⟨w4.heap.size, 7, none⟩ = some (.slice d4.A d4.n d4.c))
    (first | exact ⟨by assumption, by assumption, by assumption, by assumption, by assumption, by assumption, by assumption, by assumption⟩ | go_keep)
    (first
      | (go_at_call 22; refine (P22.out _ (by assumption)).mono ?_; rintro e wn ⟨rfl, hb⟩; have K6 := step_bo (by assumption) hb; clear hb; obtain ⟨⟨_, _, _, _, _, _, _, _⟩, -⟩ := K6.out.2.tb.all)
      | (go_at_call 23; refine (P23.out _ (by assumption)).mono ?_; rintro e wn ⟨rfl, hb⟩; have K7 := step_bo (by assumption) hb; clear hb; obtain ⟨⟨_, _, _, _, _, _, _, _⟩, -⟩ := K7.out.2.tb.all)
      | (go_at_call 24; refine (P24.out _ (by assumption)).mono ?_; rintro e wn ⟨rfl, hb⟩; have K8 := step_bo (by assumption) hb; clear hb; obtain ⟨⟨_, _, _, _, _, _, _, _⟩, -⟩ := K8.out.2.tb.all)
      | fail)
  all_goals
    clear P22 P23 P24 K6 K7 K5d
    have D8 := Lib.hid (P25.out _ K8)
    clear x0 x1 x2 x3 x4 x5 x6 x7 y0 y1 y2 y3 y4 y5 y6 y7 P25
    obtain ⟨⟨x0, x1, x2, x3, x4, x5, x6, x7⟩, -⟩ := K8.out.1.tb.all
    go_wp2_with fail
    refine D8.out.mono ?_
    rintro e w9 ⟨b9, rfl, hr9, hb9⟩
    have K9 := step_bo K8 hb9
    clear D8 K8 hb9 x0 x1 x2 x3 x4 x5 x6 x7
    obtain ⟨⟨x0, x1, x2, x3, x4, x5, x6, x7⟩, -⟩ := K9.out.1.tb.all
    cases b9 with
    | false =>
      clear P26 P27 P28 P29 P16
      go_wp2
      go_ret
      exact ⟨rfl, K9.out.1.bel⟩
    | true =>
      have Q26 := Lib.hid (P26.out (hr9 rfl) _ K9)
      have Q27 := Lib.hid (P27.out (hr9 rfl))
      have Q29 := Lib.hid (P29.out (hr9 rfl))
      clear hr9 P26 P27 P29
      go_wp2_with fail
      refine Q26.out.mono ?_
      rintro e wa ⟨rfl, hba⟩
      have KA := step_bo K9 hba
      clear Q26 K9 hba x0 x1 x2 x3 x4 x5 x6 x7
      obtain ⟨⟨x0, x1, x2, x3, x4, x5, x6, x7⟩, -⟩ := KA.out.1.tb.all
      obtain ⟨⟨y0, y1, y2, y3, y4, y5, y6, y7⟩, -⟩ := KA.out.2.tb.all
      have R27 := Lib.hid (Q27.out _ KA)
      clear Q27
      go_wp2_with fail
      refine R27.out.mono ?_
      rintro e wb ⟨rfl, hbb⟩
      have KB := step_bo KA hbb
      have R28 := Lib.hid (P28.out _ KB)
      clear R27 KA hbb x0 x1 x2 x3 x4 x5 x6 x7 y0 y1 y2 y3 y4 y5 y6 y7 P28
      obtain ⟨⟨x0, x1, x2, x3, x4, x5, x6, x7⟩, -⟩ := KB.out.1.tb.all
      obtain ⟨⟨y0, y1, y2, y3, y4, y5, y6, y7⟩, -⟩ := KB.out.2.tb.all
      go_wp2_with fail
      refine R28.out.mono ?_
      rintro e wc ⟨rfl, hbc⟩
      have KC := step_bo KB hbc
      have R29 := Lib.hid (Q29.out _ KC)
      clear R28 KB hbc x0 x1 x2 x3 x4 x5 x6 x7 y0 y1 y2 y3 y4 y5 y6 y7 Q29
      obtain ⟨⟨x0, x1, x2, x3, x4, x5, x6, x7⟩, -⟩ := KC.out.1.tb.all
      obtain ⟨⟨y0, y1, y2, y3, y4, y5, y6, y7⟩, -⟩ := KC.out.2.tb.all
      go_wp2_with fail
      refine R29.out.mono ?_
      rintro e wd ⟨rfl, hbd⟩
      have KD := step_bo KC hbd
      have R16 := Lib.hid (P16.out _ KD)
      clear R29 KC hbd x0 x1 x2 x3 x4 x5 x6 x7 y0 y1 y2 y3 y4 y5 y6 y7 P16
      obtain ⟨⟨x0, x1, x2, x3, x4, x5, x6, x7⟩, -⟩ := KD.out.1.tb.all
      obtain ⟨⟨y0, y1, y2, y3, y4, y5, y6, y7⟩, -⟩ := KD.out.2.tb.all
      go_wp2_with fail
      refine R16.out.mono ?_
      rintro e we ⟨rfl, hbe⟩
      have KE := step_bo KD hbe
      clear R16 KD hbe x0 x1 x2 x3 x4 x5 x6 x7 y0 y1 y2 y3 y4 y5 y6 y7
      go_wp2
      go_ret
      exact ⟨rfl, KE.out.1.bel⟩
end Go.Proofs.Ytnaecagmcpndhaa
