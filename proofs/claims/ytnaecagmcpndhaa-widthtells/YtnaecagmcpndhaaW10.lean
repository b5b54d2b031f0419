/- Span: a repeat. -/
import Derived.Test.YtnaecagmcpndhaaW9
namespace Go.Proofs.Ytnaecagmcpndhaa
open Go.RowKit
/-- what the repeat's statement keeps -/
structure KR (w W : World) (p kb off c : Nat) (q : Nat → BitVec 64) (lo hi : Int) (kt : Tm) (dt : TD) : Prop where
  t : TB W w.heap.size ⟨8, q, lo, hi, some ⟨kb, off, none⟩, 1, c⟩
  z : EB W (w.heap.size + 1) ⟨0, 0, false⟩
  b : Below w.heap.size w W
  f : Fun W p 36
  v : TR W kt dt
  pl : p < w.heap.size
  kl : kb < w.heap.size
  k : ∀ j, j < 8 → w.cell? ⟨kb, off + j, none⟩ = dt.cells[j]?
theorem step_kr {w W : World} {p kb off c : Nat} {q : Nat → BitVec 64} {lo hi : Int} {kt : Tm} {dt : TD} {W' : World} (h : Hid (KR w W p kb off c q lo hi kt dt)) (hb : Below W.heap.size W W') : Hid (KR w W' p kb off c q lo hi kt dt) :=
  ⟨h.out.t.below hb, h.out.z.below hb, h.out.b.trans (hb.mono h.out.b.size), h.out.f.below hb, h.out.v.keeps hb, h.out.pl, h.out.kl, h.out.k⟩
theorem krk {w W : World} {p kb off c : Nat} {q : Nat → BitVec 64} {lo hi : Int} {kt : Tm} {dt : TD} (h : Hid (KR w W p kb off c q lo hi kt dt)) : W.cell? ⟨p, 0, none⟩ = some (.func (.func 36) #[] #[.pointer (some ⟨p, 0, none⟩)]) ∧ W.cell? ⟨w.heap.size, 5, none⟩ = some (.int .i64 lo) ∧ W.cell? ⟨w.heap.size, 6, none⟩ = some (.int .i64 hi) ∧ W.cell? ⟨w.heap.size, 7, none⟩ = some (.slice (some ⟨kb, off, none⟩) 1 c) ∧ W.cell? ⟨kb, off, none⟩ = some (.int .i64 dt.op) ∧ W.cell? ⟨kb, off + 1, none⟩ = some (.int .u64 (uv (dt.q 0))) ∧ W.cell? ⟨kb, off + 2, none⟩ = some (.int .u64 (uv (dt.q 1))) ∧ W.cell? ⟨kb, off + 3, none⟩ = some (.int .u64 (uv (dt.q 2))) ∧ W.cell? ⟨kb, off + 4, none⟩ = some (.int .u64 (uv (dt.q 3))) ∧ W.cell? ⟨kb, off + 5, none⟩ = some (.int .i64 dt.lo) ∧ W.cell? ⟨kb, off + 6, none⟩ = some (.int .i64 dt.hi) ∧ W.cell? ⟨kb, off + 7, none⟩ = some (.slice dt.A dt.n dt.c) := by
  obtain ⟨⟨_, _, _, _, _, a5, a6, a7⟩, _⟩ := h.out.t.all
  have hk := fun j hj => (h.out.b.cell (p := ⟨kb, off + j, none⟩) h.out.kl).trans (h.out.k j hj)
  exact ⟨h.out.f.1, a5, a6, a7, hk 0 (by omega), hk 1 (by omega), hk 2 (by omega), hk 3 (by omega), hk 4 (by omega), hk 5 (by omega), hk 6 (by omega), hk 7 (by omega)⟩
theorem krk3 {w W : World} {p kb off c : Nat} {q : Nat → BitVec 64} {lo hi : Int} {kt : Tm} {dt : TD} (h : Hid (KR w W p kb off c q lo hi kt dt)) (a b e : Value) : (((W.setCell ⟨w.heap.size + 1, 0, none⟩ a).setCell ⟨w.heap.size + 1, 1, none⟩ b).setCell ⟨w.heap.size + 1, 2, none⟩ e).cell? ⟨p, 0, none⟩ = some (.func (.func 36) #[] #[.pointer (some ⟨p, 0, none⟩)]) ∧ (((W.setCell ⟨w.heap.size + 1, 0, none⟩ a).setCell ⟨w.heap.size + 1, 1, none⟩ b).setCell ⟨w.heap.size + 1, 2, none⟩ e).cell? ⟨w.heap.size, 5, none⟩ = some (.int .i64 lo) ∧ (((W.setCell ⟨w.heap.size + 1, 0, none⟩ a).setCell ⟨w.heap.size + 1, 1, none⟩ b).setCell ⟨w.heap.size + 1, 2, none⟩ e).cell? ⟨w.heap.size, 6, none⟩ = some (.int .i64 hi) ∧ (((W.setCell ⟨w.heap.size + 1, 0, none⟩ a).setCell ⟨w.heap.size + 1, 1, none⟩ b).setCell ⟨w.heap.size + 1, 2, none⟩ e).cell? ⟨w.heap.size, 7, none⟩ = some (.slice (some ⟨kb, off, none⟩) 1 c) ∧ (((W.setCell ⟨w.heap.size + 1, 0, none⟩ a).setCell ⟨w.heap.size + 1, 1, none⟩ b).setCell ⟨w.heap.size + 1, 2, none⟩ e).cell? ⟨kb, off, none⟩ = some (.int .i64 dt.op) ∧ (((W.setCell ⟨w.heap.size + 1, 0, none⟩ a).setCell ⟨w.heap.size + 1, 1, none⟩ b).setCell ⟨w.heap.size + 1, 2, none⟩ e).cell? ⟨kb, off + 1, none⟩ = some (.int .u64 (uv (dt.q 0))) ∧ (((W.setCell ⟨w.heap.size + 1, 0, none⟩ a).setCell ⟨w.heap.size + 1, 1, none⟩ b).setCell ⟨w.heap.size + 1, 2, none⟩ e).cell? ⟨kb, off + 2, none⟩ = some (.int .u64 (uv (dt.q 1))) ∧ (((W.setCell ⟨w.heap.size + 1, 0, none⟩ a).setCell ⟨w.heap.size + 1, 1, none⟩ b).setCell ⟨w.heap.size + 1, 2, none⟩ e).cell? ⟨kb, off + 3, none⟩ = some (.int .u64 (uv (dt.q 2))) ∧ (((W.setCell ⟨w.heap.size + 1, 0, none⟩ a).setCell ⟨w.heap.size + 1, 1, none⟩ b).setCell ⟨w.heap.size + 1, 2, none⟩ e).cell? ⟨kb, off + 4, none⟩ = some (.int .u64 (uv (dt.q 3))) ∧ (((W.setCell ⟨w.heap.size + 1, 0, none⟩ a).setCell ⟨w.heap.size + 1, 1, none⟩ b).setCell ⟨w.heap.size + 1, 2, none⟩ e).cell? ⟨kb, off + 5, none⟩ = some (.int .i64 dt.lo) ∧ (((W.setCell ⟨w.heap.size + 1, 0, none⟩ a).setCell ⟨w.heap.size + 1, 1, none⟩ b).setCell ⟨w.heap.size + 1, 2, none⟩ e).cell? ⟨kb, off + 6, none⟩ = some (.int .i64 dt.hi) ∧ (((W.setCell ⟨w.heap.size + 1, 0, none⟩ a).setCell ⟨w.heap.size + 1, 1, none⟩ b).setCell ⟨w.heap.size + 1, 2, none⟩ e).cell? ⟨kb, off + 7, none⟩ = some (.slice dt.A dt.n dt.c) := by
  have hh : ∀ j, j ≠ w.heap.size + 1 → (((W.setCell ⟨w.heap.size + 1, 0, none⟩ a).setCell ⟨w.heap.size + 1, 1, none⟩ b).setCell ⟨w.heap.size + 1, 2, none⟩ e).heap[j]? = W.heap[j]? := fun j hj => by
    rw [Below.heap_setCell _ ⟨w.heap.size + 1, 2, none⟩ _ j hj, Below.heap_setCell _ ⟨w.heap.size + 1, 1, none⟩ _ j hj, Below.heap_setCell _ ⟨w.heap.size + 1, 0, none⟩ _ j hj]
  have hc : ∀ (j o : Nat), j ≠ w.heap.size + 1 → (((W.setCell ⟨w.heap.size + 1, 0, none⟩ a).setCell ⟨w.heap.size + 1, 1, none⟩ b).setCell ⟨w.heap.size + 1, 2, none⟩ e).cell? ⟨j, o, none⟩ = W.cell? ⟨j, o, none⟩ := fun j o hj => World.cell?_of_block (a := ⟨j, o, none⟩) (hh j hj)
  have hp := h.out.pl
  have hk := h.out.kl
  rw [hc p _ (by omega), hc w.heap.size _ (by omega), hc w.heap.size _ (by omega), hc w.heap.size _ (by omega), hc kb _ (by omega), hc kb _ (by omega), hc kb _ (by omega), hc kb _ (by omega), hc kb _ (by omega), hc kb _ (by omega), hc kb _ (by omega), hc kb _ (by omega)]
  exact krk h
set_option maxRecDepth 100000 in
set_option maxHeartbeats 4000000 in
theorem span_rep (f : Nat → Bool) (lo hi : Int) (kt : Tm) (d : TD) (p : Nat) (w : World) (ht : TR w (.mk 8 f lo hi [kt]) d) (hok : Ok (.mk 8 f lo hi [kt])) (hF : Fun w p 36)
    (ih : ∀ (d : TD) (p : Nat) (w : World), TR w kt d → Ok kt → Fun w p 36 → Calls Try.prog 36 #[d.val, .pointer (some ⟨p, 0, none⟩)] w (Tells w (spanT kt).val)) :
    Calls Try.prog 36 #[d.val, .pointer (some ⟨p, 0, none⟩)] w (Tells w (spanT (.mk 8 f lo hi [kt])).val) := by
  have R : Hid (spanT (.mk 8 f lo hi [kt]) = repeatF (spanT kt) lo hi) := by show spanT _ = _; rw [spanT]; simp [repX]
  have okk := hok.kid (k := kt) (by simp)
  have hnum := hok.num rfl
  cases ht with
  | mk _ _ _ _ _ q A c ds hq hl hn hk hr =>
  match ds, hl with
  | [dt], _ =>
  obtain ⟨kb, off, rfl, hkb, hkc⟩ := hr (by simp)
  have hv := hk 0 kt dt rfl rfl
  have hk8 : ∀ j, j < 8 → w.cell? ⟨kb, off + j, none⟩ = dt.cells[j]? := fun j hj => by have := hkc 0 dt rfl j hj; rw [Nat.zero_mul, Nat.add_zero] at this; exact this
  have nb := below2 w (.cells #[.int .i64 8, .int .u64 (uv (q 0)), .int .u64 (uv (q 1)), .int .u64 (uv (q 2)), .int .u64 (uv (q 3)), .int .i64 lo, .int .i64 hi, .slice (some ⟨kb, off, none⟩) 1 c] 29) (.cells #[.int .i64 0, .int .i64 0, .bool false] 62)
  have K0 : Hid (KR w (((w.alloc (.cells #[.int .i64 8, .int .u64 (uv (q 0)), .int .u64 (uv (q 1)), .int .u64 (uv (q 2)), .int .u64 (uv (q 3)), .int .i64 lo, .int .i64 hi, .slice (some ⟨kb, off, none⟩) 1 c] 29)).alloc (.cells #[.int .i64 0, .int .i64 0, .bool false] 62))).drew p kb off c q lo hi kt dt) := by
    have K : Hid (KR w ((w.alloc (.cells #[.int .i64 8, .int .u64 (uv (q 0)), .int .u64 (uv (q 1)), .int .u64 (uv (q 2)), .int .u64 (uv (q 3)), .int .i64 lo, .int .i64 hi, .slice (some ⟨kb, off, none⟩) 1 c] 29)).alloc (.cells #[.int .i64 0, .int .i64 0, .bool false] 62)) p kb off c q lo hi kt dt) := by
      refine ⟨(TB.new w ⟨8, q, lo, hi, some ⟨kb, off, none⟩, 1, c⟩).alloc _, ?_, nb, hF.below nb, hv.keeps nb, hF.2, hkb, hk8⟩
      have h := EB.new (w.alloc (.cells #[.int .i64 8, .int .u64 (uv (q 0)), .int .u64 (uv (q 1)), .int .u64 (uv (q 2)), .int .u64 (uv (q 3)), .int .i64 lo, .int .i64 hi, .slice (some ⟨kb, off, none⟩) 1 c] 29)) ⟨0, 0, false⟩
      rw [World.size_alloc] at h
      exact h
    exact step_kr K (Below.refl _ _).drew
  have D1 := Lib.hid fun (W : World) (h : Hid (KR w W p kb off c q lo hi kt dt)) => ih dt p W h.out.v okk h.out.f
  have D2 := Lib.hid fun W => repeated_any (spanT kt) lo hi W (spanT_eo kt okk) hnum.1 hnum.2
  have pl := hF.2
  clear ih hk hr hkc hk8 hv nb hok okk hnum hq hn hF
  rw [R.out]
  unfold TD.val at D1 ⊢
  unfold Ex.val at D1 D2 ⊢
  simp only [List.length_singleton]
  go_enter Try.func36, Try.ntmps36
  go_wp2_with fail
  go_region_held3 (fun w' => w'.cell? ⟨p, 0, none⟩ = some (.func (.func 36) #[] #[.pointer (some ⟨p, 0, none⟩)]) ∧ w'.cell? ⟨w.heap.size, 5, none⟩ = some (.int .i64 lo) ∧ w'.cell? ⟨w.heap.size, 6, none⟩ = some (.int .i64 hi) ∧ w'.cell? ⟨w.heap.size, 7, none⟩ = some (.slice (some ⟨kb, off, none⟩) 1 c) ∧ w'.cell? ⟨kb, off, none⟩ = some (.int .i64 dt.op) ∧ w'.cell? ⟨kb, off + 1, none⟩ = some (.int .u64 (uv (dt.q 0))) ∧ w'.cell? ⟨kb, off + 2, none⟩ = some (.int .u64 (uv (dt.q 1))) ∧ w'.cell? ⟨kb, off + 3, none⟩ = some (.int .u64 (uv (dt.q 2))) ∧ w'.cell? ⟨kb, off + 4, none⟩ = some (.int .u64 (uv (dt.q 3))) ∧ w'.cell? ⟨kb, off + 5, none⟩ = some (.int .i64 dt.lo) ∧ w'.cell? ⟨kb, off + 6, none⟩ = some (.int .i64 dt.hi) ∧ w'.cell? ⟨kb, off + 7, none⟩ = some (.slice dt.A dt.n dt.c)) (first | exact krk (by assumption) | exact krk3 (by assumption) _ _ _)
    (first
    | (go_at_call 36; refine (D1.out _ (by assumption)).mono ?_; rintro e wn ⟨rfl, hb⟩; have K1 := step_kr (p := p) (kb := kb) (off := off) (c := c) (q := q) (lo := lo) (hi := hi) (kt := kt) (dt := dt) (w := w) (by assumption) hb; clear hb)
    | (go_at_call 41; refine (D2.out _).mono ?_; rintro e wn ⟨rfl, hb⟩; have K2 := step_kr (p := p) (kb := kb) (off := off) (c := c) (q := q) (lo := lo) (hi := hi) (kt := kt) (dt := dt) (w := w) (by assumption) hb; clear hb; obtain ⟨⟨_, _, _⟩, _, _, _⟩ := K2.out.z.all))
  all_goals
    go_wp2
    exact end36 (x := repeatF (spanT kt) lo hi) K2.out.z K2.out.b _ rfl
end Go.Proofs.Ytnaecagmcpndhaa
