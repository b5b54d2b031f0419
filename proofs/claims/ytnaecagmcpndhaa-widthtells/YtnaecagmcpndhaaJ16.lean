/- Span: every term. Span. -/
import Derived.Test.YtnaecagmcpndhaaA10
import Derived.Test.YtnaecagmcpndhaaA7
import Derived.Test.YtnaecagmcpndhaaA8
namespace Go.Proofs.Ytnaecagmcpndhaa.A
open Go.RowKit
theorem span_any : ∀ (t : Tm) (d : TD) (p : Nat) (w : World), TR w t d → Ok t → Fun w p 36 → Calls Try.prog 36 #[d.val, .pointer (some ⟨p, 0, none⟩)] w (Tells w (spanT t).val) := by
  intro t
  induction t using Tm.ind with
  | h op f lo hi ks ih =>
  intro d p w ht hok hF
  by_cases h5 : op = 1 ∨ op = 4 ∨ op = 5 ∨ op = 3 ∨ op = 2
  · exact span_leaf op f lo hi ks d p w ht h5
  by_cases h6 : op = 6
  · subst h6
    exact span_cat f lo hi ks d p w ht hok hF ih
  by_cases h7 : op = 7
  · subst h7
    exact span_alt f lo hi ks d p w ht hok hF ih
  by_cases h8 : op = 8 ∧ ks.length = 1
  · obtain ⟨rfl, h1⟩ := h8
    obtain ⟨kt, rfl⟩ := List.length_eq_one_iff.mp h1
    exact span_rep f lo hi kt d p w ht hok hF (ih kt (by simp))
  · exact span_other op f lo hi ks d p w ht (by omega) (fun a b => h8 ⟨a, b⟩)
end Go.Proofs.Ytnaecagmcpndhaa.A
namespace Go.Proofs.Ytnaecagmcpndhaa.A
open Go.RowKit
set_option maxRecDepth 100000 in
theorem spanwhole_any (t : Tm) (d : TD) (w : World) (ht : TR w t d) (hok : Ok t) : Calls Try.prog 21 #[d.val] w (Tells w (.tuple #[.int .i64 (spanT t).l, .int .i64 (spanT t).m, .bool (spanT t).a])) := by
  have hmf : ∀ (fn : Fn) (first cap : Array Value) (w : World), (Instr.makeFunc fn first cap).run Try.prog w = .ok (.func fn first cap) w := fun _ _ _ _ => rfl
  have hst : ∀ (a : Addr) (fn : Fn) (first cap : Array Value) (m : Mode) (W : World), (store a (.func fn first cap) m).run Try.prog W = stored Try.prog W a (.func fn first cap) m := fun a fn first cap m W => run_store Try.prog W a _ m rfl
  have b2 := below2 w (.cells d.cells 29) (.cells #[.func (.func 36) #[] #[.pointer (some ⟨w.heap.size + 1, 0, none⟩)]] 60)
  have hF : Fun ((w.alloc (.cells d.cells 29)).alloc (.cells #[.func (.func 36) #[] #[.pointer (some ⟨w.heap.size + 1, 0, none⟩)]] 60)) (w.heap.size + 1) 36 := by
    refine ⟨?_, by simp⟩
    have h := heap_alloc_new (w.alloc (.cells d.cells 29)) (.cells #[.func (.func 36) #[] #[.pointer (some ⟨w.heap.size + 1, 0, none⟩)]] 60)
    rw [World.size_alloc] at h
    rw [cell_of_row _ (w.heap.size + 1) 0 _ 60 (0, 0) h]
    rfl
  have D1 := Lib.hid (span_any t d (w.heap.size + 1) _ (ht.keeps b2) hok hF)
  have B2 := Lib.hid b2
  clear b2 hF
  generalize spanT t = x at *
  unfold Ex.val at *
  unfold TD.val TD.cells at *
  go_enter Try.func21, Try.ntmps21
  go_wp2_with fail
  refine D1.out.mono ?_
  rintro e w5 ⟨rfl, hb5⟩
  have B5 := Lib.hid (B2.out.trans (hb5.mono B2.out.size))
  clear D1 B2 hb5
  have bb := below_new w5 (.cells #[.int .i64 x.l, .int .i64 x.m, .bool x.a] 62)
  have B6 := Lib.hid (B5.out.trans (bb.mono B5.out.size))
  obtain ⟨⟨x0, x1, x2⟩, _⟩ := (EB.new w5 x).all
  clear bb B5
  go_wp2
  go_region
  go_wp2
  refine bodyPost_ret (v := .tuple #[.int .i64 x.l, .int .i64 x.m, .bool x.a]) (by simp [results, Try.results21, go_sem]) rfl ?_
  exact ⟨rfl, B6.out.drew⟩
set_option maxRecDepth 100000 in
theorem nullable_any (t : Tm) (d : TD) (w : World) (ht : TR w t d) (hok : Ok t) : Calls Try.prog 24 #[d.val] w (Tells w (.bool ((spanT t).a && ((spanT t).l == 0)))) := by
  have D1 := Lib.hid (spanwhole_any t d (w.alloc (.cells d.cells 29)) (ht.keeps (below_new _ _)) hok)
  have B1 := Lib.hid (below_new w (.cells d.cells 29))
  generalize spanT t = x at *
  unfold TD.val TD.cells at *
  go_enter Try.func24, Try.ntmps24
  go_wp2_with fail
  refine D1.out.mono ?_
  rintro e w5 ⟨rfl, hb5⟩
  have B5 := Lib.hid (B1.out.trans (hb5.mono B1.out.size))
  clear D1 B1 hb5
  obtain ⟨l, m, a⟩ := x
  cases a
  · go_wp2
    go_ret
    exact ⟨rfl, B5.out⟩
  · go_wp2
    go_ret
    exact ⟨rfl, B5.out⟩
end Go.Proofs.Ytnaecagmcpndhaa.A
