/- Anchored, whole. -/
import Derived.Test.YtnaecagmcpndhaaW13
namespace Go.Proofs.Ytnaecagmcpndhaa
open Go.RowKit
set_option maxRecDepth 100000 in
theorem anc_any : ∀ (t : Tm) (d : TD) (p : Nat) (w : World), TR w t d → Fun w p 46 → Calls Try.prog 46 #[d.val, .pointer (some ⟨p, 0, none⟩)] w (Tells w (.bool (ancT t))) := by
  intro t
  induction t using Tm.ind with
  | h op f lo hi ks ih =>
  intro d p w ht hF
  cases ht with
  | mk _ _ _ _ _ q A c ds hq hl hn hk hr =>
  obtain ⟨n, hnn⟩ : ∃ n, ks.length = n := ⟨_, rfl⟩
  rw [hnn] at hn ⊢
  have b1 := below_new w (.cells #[.int .i64 op, .int .u64 (uv (q 0)), .int .u64 (uv (q 1)), .int .u64 (uv (q 2)), .int .u64 (uv (q 3)), .int .i64 lo, .int .i64 hi, .slice A n c] 29)
  have f1 := hF.below b1
  have D1 := Lib.hid (con_any ks ds A n c p _ hnn hl hn (fun i t d a b => (hk i t d a b).keeps b1) (hr.below b1) f1 ih)
  have B1 := Lib.hid b1
  obtain ⟨⟨x0, x1, x2, x3, x4, x5, x6, x7⟩, _⟩ := (TB.new w ⟨op, q, lo, hi, A, n, c⟩).all
  have R : Hid (ancT (.mk op f lo hi ks) = ((op == 4) || ((op == 5) || ancL ks))) := by show ancT _ = _; rw [ancT]
  obtain ⟨f2, f3⟩ := f1
  unfold TD.val
  generalize ancT (.mk op f lo hi ks) = r at *
  generalize ancL ks = s at *
  have e := R.out
  clear ih hk hr hl hF b1 R
  subst e
  by_cases h4 : op = 4
  · subst h4
    go_enter Try.func46, Try.ntmps46
    go_wp2
    go_ret
    exact ⟨rfl, B1.out⟩
  have q4 : (op == 4) = false := by rw [beq_eq_false_iff_ne]; exact h4
  by_cases h5 : op = 5
  · subst h5
    go_enter Try.func46, Try.ntmps46
    go_wp2
    go_ret
    exact ⟨rfl, B1.out⟩
  have q5 : (op == 5) = false := by rw [beq_eq_false_iff_ne]; exact h5
  rw [q4, q5, Bool.false_or, Bool.false_or]
  go_enter Try.func46, Try.ntmps46
  go_wp2_with fail
  refine D1.out.mono ?_
  rintro e w5 ⟨rfl, hb5⟩
  have B5 := Lib.hid (B1.out.trans (hb5.mono B1.out.size))
  clear D1 B1 hb5 x0 x1 x2 x3 x4 x5 x6 x7 f2 f3
  go_wp2
  go_ret
  exact ⟨rfl, B5.out⟩
set_option maxRecDepth 100000 in
theorem anchored_any (t : Tm) (d : TD) (w : World) (ht : TR w t d) : Calls Try.prog 23 #[d.val] w (Tells w (.bool (ancT t))) := by
  have hmf : ∀ (fn : Fn) (first cap : Array Value) (w : World), (Instr.makeFunc fn first cap).run Try.prog w = .ok (.func fn first cap) w := fun _ _ _ _ => rfl
  have hst : ∀ (a : Addr) (fn : Fn) (first cap : Array Value) (m : Mode) (W : World), (store a (.func fn first cap) m).run Try.prog W = stored Try.prog W a (.func fn first cap) m := fun a fn first cap m W => run_store Try.prog W a _ m rfl
  have b2 := below2 w (.cells d.cells 29) (.cells #[.func (.func 46) #[] #[.pointer (some ⟨w.heap.size + 1, 0, none⟩)]] 40)
  have hF : Fun ((w.alloc (.cells d.cells 29)).alloc (.cells #[.func (.func 46) #[] #[.pointer (some ⟨w.heap.size + 1, 0, none⟩)]] 40)) (w.heap.size + 1) 46 := by
    refine ⟨?_, by simp⟩
    have h := heap_alloc_new (w.alloc (.cells d.cells 29)) (.cells #[.func (.func 46) #[] #[.pointer (some ⟨w.heap.size + 1, 0, none⟩)]] 40)
    rw [World.size_alloc] at h
    rw [cell_of_row _ (w.heap.size + 1) 0 _ 40 (0, 0) h]
    rfl
  have D1 := Lib.hid (anc_any t d (w.heap.size + 1) _ (ht.keeps b2) hF)
  have B2 := Lib.hid b2
  clear b2 hF
  unfold TD.val TD.cells at *
  go_enter Try.func23, Try.ntmps23
  go_wp2_with fail
  refine D1.out.mono ?_
  rintro e w5 ⟨rfl, hb5⟩
  have B5 := Lib.hid (B2.out.trans (hb5.mono B2.out.size))
  clear D1 B2 hb5
  go_wp2
  go_ret
  exact ⟨rfl, B5.out⟩
end Go.Proofs.Ytnaecagmcpndhaa
