/- The document's Span and Nullable. -/
import Derived.Test.YtnaecagmcpndhaaX16
import Derived.Test.YtnaecagmcpndhaaX18
namespace Go.Proofs.Ytnaecagmcpndhaa
open Go.RowKit
theorem cx_step {w W w' : World} {b : Nat} {t : Tm} {d : TD} (h : Hid (Cx w W b t d)) (hb : Below W.heap.size W w') : Hid (Cx w w' b t d) := h.out.to hb
set_option maxRecDepth 100000 in
set_option maxHeartbeats 2000000 in
theorem nullref_any (t : Tm) (d : TD) (w : World) (ht : TR w t d) (hw : Rw t) : Calls Try.prog 29 #[d.val] w (Tells w (.bool ((spanT t).a && ((spanT t).l == 0)))) := by
  have nb := below_new w (.cells d.cells 29)
  have T1 := TB.new w d
  have k1 := ht.keeps nb
  have D1 := Lib.hid (anyref_any t d _ k1 hw)
  have D2 := Lib.hid fun (W : World) (h : TR W t d) (e : (spanT t).a = true) => leastref_any t d W h hw e
  have B1 := Lib.hid nb; have K1 := Lib.hid k1; have TT := Lib.hid T1
  obtain ⟨⟨x0, x1, x2, x3, x4, x5, x6, x7⟩, -⟩ := T1.all
  clear nb k1 T1 ht hw
  generalize (spanT t).a = b at *
  generalize (spanT t).l = y at *
  unfold TD.val TD.cells at *
  go_enter Try.func29, Try.ntmps29
  go_wp2_with fail
  refine D1.out.mono ?_
  rintro e w5 ⟨rfl, hb5⟩
  have B5 := Lib.hid (B1.out.trans (hb5.mono B1.out.size))
  have T5 := Lib.hid (TT.out.below hb5)
  have K5 := Lib.hid (K1.out.keeps hb5)
  clear D1 B1 TT K1 hb5 x0 x1 x2 x3 x4 x5 x6 x7
  cases b
  · go_wp2
    go_ret
    exact ⟨rfl, B5.out⟩
  · have D3 := Lib.hid (D2.out _ K5.out rfl)
    obtain ⟨⟨x0, x1, x2, x3, x4, x5, x6, x7⟩, -⟩ := T5.out.all
    clear D2 K5
    go_wp2_with fail
    refine D3.out.mono ?_
    rintro e w6 ⟨rfl, hb6⟩
    have B6 := Lib.hid (B5.out.trans (hb6.mono B5.out.size))
    clear D3 B5 hb6 T5 x0 x1 x2 x3 x4 x5 x6 x7
    go_wp2
    go_ret
    exact ⟨rfl, B6.out⟩
set_option maxRecDepth 100000 in
set_option maxHeartbeats 2000000 in
theorem spanref_any (t : Tm) (d : TD) (w : World) (ht : TR w t d) (hw : Rw t) : Calls Try.prog 26 #[d.val] w (Tells w (.tuple #[.int .i64 (spanT t).l, .int .i64 (spanT t).m, .bool (spanT t).a])) := by
  have nb := below_new w (.cells d.cells 29)
  have T1 := TB.new w d
  have k1 := ht.keeps nb
  have D1 := Lib.hid (anyref_any t d _ k1 hw)
  have C1 : Hid (Cx w (w.alloc (.cells d.cells 29)) w.heap.size t d) := ⟨nb, k1, T1⟩
  obtain ⟨⟨x0, x1, x2, x3, x4, x5, x6, x7⟩, -⟩ := T1.all
  have N0 := Lib.hid (span_no t)
  have D2 : Hid (∀ W : World, Hid (Cx w W w.heap.size t d) → (spanT t).a = true → Calls Try.prog 51 #[d.val] W (Tells W (.int .i64 (spanT t).l))) := fun W h e => leastref_any t d W h.out.tr hw e
  have D3 : Hid (∀ W : World, Hid (Cx w W w.heap.size t d) → (spanT t).a = true → Calls Try.prog 52 #[d.val] W (Tells W (.int .i64 (spanT t).m))) := fun W h e => mostref_any t d W h.out.tr hw e
  clear nb k1 T1 ht hw
  generalize (spanT t).a = b at *
  generalize (spanT t).l = y at *
  generalize (spanT t).m = z at *
  unfold TD.val TD.cells at *
  go_enter Try.func26, Try.ntmps26
  go_wp2_with fail
  refine D1.out.mono ?_
  rintro e w5 ⟨rfl, hb5⟩
  have C5 := cx_step C1 hb5
  clear D1 C1 hb5 x0 x1 x2 x3 x4 x5 x6 x7
  cases b
  · obtain ⟨rfl, rfl⟩ := N0.out rfl
    go_wp2
    refine bodyPost_ret (v := .tuple #[.int .i64 0, .int .i64 0, .bool false]) (by simp [results, Try.results26, go_sem]) rfl ?_
    exact ⟨rfl, C5.out.bel⟩
  · obtain ⟨⟨x0, x1, x2, x3, x4, x5, x6, x7⟩, -⟩ := C5.out.tb.all
    have C5d := cx_step C5 (Below.refl w5.heap.size w5).drew
    have P51 : Hid (∀ W : World, Hid (Cx w W w.heap.size t d) → Calls Try.prog 51 #[d.val] W (Tells W (.int .i64 y))) := fun W h => D2.out W h rfl
    have P52 : Hid (∀ W : World, Hid (Cx w W w.heap.size t d) → Calls Try.prog 52 #[d.val] W (Tells W (.int .i64 z))) := fun W h => D3.out W h rfl
    unfold TD.val at P51 P52
    clear D2 D3 C5
    go_wp2_with fail
    go_region_held3 (fun w' => w'.cell? ⟨w.heap.size, 0, none⟩ = some (.int .i64 d.op) ∧ w'.cell? ⟨w.heap.size, 1, none⟩ = some (.int .u64 (uv (d.q 0))) ∧ w'.cell? ⟨w.heap.size, 2, none⟩ = some (.int .u64 (uv (d.q 1))) ∧ w'.cell? ⟨w.heap.size, 3, none⟩ = some (.int .u64 (uv (d.q 2))) ∧ w'.cell? ⟨w.heap.size, 4, none⟩ = some (.int .u64 (uv (d.q 3))) ∧ w'.cell? ⟨w.heap.size, 5, none⟩ = some (.int .i64 d.lo) ∧ w'.cell? ⟨w.heap.size, 6, none⟩ = some (.int .i64 d.hi) ∧ w'.cell? ⟨w.heap.size, 7, none⟩ = some (.slice d.A d.n d.c))
      (first | exact ⟨by assumption, by assumption, by assumption, by assumption, by assumption, by assumption, by assumption, by assumption⟩ | go_keep)
      (first
        | (go_at_call 51; refine (P51.out _ (by assumption)).mono ?_; rintro e w6 ⟨rfl, hb6⟩; have C6 := cx_step (by assumption) hb6; clear hb6; obtain ⟨⟨_, _, _, _, _, _, _, _⟩, -⟩ := C6.out.tb.all)
        | (go_at_call 52; refine (P52.out _ (by assumption)).mono ?_; rintro e w7 ⟨rfl, hb7⟩; have C7 := cx_step (by assumption) hb7; clear hb7; obtain ⟨⟨_, _, _, _, _, _, _, _⟩, -⟩ := C7.out.tb.all)
        | fail)
    all_goals
      clear P51 P52
      go_wp2
      refine bodyPost_ret (v := .tuple #[.int .i64 y, .int .i64 z, .bool true]) (by simp [results, Try.results26, go_sem]) rfl ?_
      exact ⟨rfl, C7.out.bel⟩
end Go.Proofs.Ytnaecagmcpndhaa
