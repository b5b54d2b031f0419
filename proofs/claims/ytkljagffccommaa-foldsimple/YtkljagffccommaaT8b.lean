/- All of a text, read to its end. -/
import Derived.Test.YtkljagffccommaaT8
namespace Go.Proofs.Ytkljagffccommaa
open Go.RowKit
theorem ends31 {W w : World} {g : Nat} {A : Option Addr} {c : Nat} {bs : List Nat} {s : St} {t : Tm} {d : TD} {x : Int} (h1 : TB W w.heap.size d) (h2 : IB W (w.heap.size + 1) x) (h3 : TV W (Sn (w.heap.size + 2) W) t d) (h4 : Rd W g A c bs s) (h5 : Fg w W g) (ol : Old A bs g w.heap.size) :
    TB (W.setCell ⟨w.heap.size + 1, 0, none⟩ (.int .i64 (-1))) w.heap.size d ∧ IB (W.setCell ⟨w.heap.size + 1, 0, none⟩ (.int .i64 (-1))) (w.heap.size + 1) (-1) ∧ TV (W.setCell ⟨w.heap.size + 1, 0, none⟩ (.int .i64 (-1))) (Sn w.heap.size (W.setCell ⟨w.heap.size + 1, 0, none⟩ (.int .i64 (-1)))) t d ∧ Rd (W.setCell ⟨w.heap.size + 1, 0, none⟩ (.int .i64 (-1))) g A c bs s ∧ Fg w (W.setCell ⟨w.heap.size + 1, 0, none⟩ (.int .i64 (-1))) g := by
  have gl := ol.rd
  have hb : ∀ k, k ≠ w.heap.size + 1 → (W.setCell ⟨w.heap.size + 1, 0, none⟩ (.int .i64 (-1))).heap[k]? = W.heap[k]? := fun k hk => Below.heap_setCell W ⟨w.heap.size + 1, 0, none⟩ _ k hk
  have hs : (W.setCell ⟨w.heap.size + 1, 0, none⟩ (.int .i64 (-1))).heap.size = W.heap.size := by simp [World.setCell]
  refine ⟨(hb _ (by omega)).trans h1, h2.put (-1) 0, h3.to fun k hk => ⟨⟨by have := hk.1; omega, by rw [hs]; exact hk.2⟩, fun _ => hb k (by have := hk.1; omega)⟩, ?_, h5.set_new (Nat.le_succ _) _⟩
  exact ⟨(hb g (by omega)).trans h4.block, h4.text.blocks (by rw [hs]; exact Nat.le_refl _) (fun h0 k hk _ => hb k (by have := ol.tx h0 k hk; omega)), h4.far, h4.le, h4.op, h4.len⟩
set_option maxHeartbeats 2000000 in
theorem whole_all (g : Nat) (A : Option Addr) (c : Nat) (bs : List Nat) (s : St) (t : Tm) (s1 : St) (w : World) (h : Rd w g A c bs s) (hs : s1.i = bs.length)
    (ha : ∀ W, Rd W g A c bs s → Calls Try.prog 54 #[.pointer (some ⟨g, 0, none⟩)] W (Does W g A c bs s 0 (.ok (t, s1)) (isTm W.heap.size))) :
    Calls Try.prog 27 #[.pointer (some ⟨g, 0, none⟩)] w fun e w' => ∃ d, e = .returned (.tuple #[d.val, .int .i64 (-1)]) ∧ TV w' (Sn w.heap.size w') t d ∧ Rd w' g A c bs s1 ∧ Fg w w' g := by
  have hmf : ∀ (fn : Fn) (first cap : Array Value) (w : World), (Instr.makeFunc fn first cap).run Try.prog w = .ok (.func fn first cap) w := fun _ _ _ _ => rfl
  have glt := h.lt
  have OL := Lib.hid h.old
  have D1 := Lib.hid (ha _ ((h.alloc (.cells #[.int .i64 0, .int .u64 0, .int .u64 0, .int .u64 0, .int .u64 0, .int .i64 0, .int .i64 0, .slice none 0 0] 29)).alloc (.cells #[.int .i64 0] 3)))
  have T1 : Hid (TB ((w.alloc (.cells #[.int .i64 0, .int .u64 0, .int .u64 0, .int .u64 0, .int .u64 0, .int .i64 0, .int .i64 0, .slice none 0 0] 29)).alloc (.cells #[.int .i64 0] 3)) w.heap.size zT) := (TB.new w zT).alloc _
  have I1 : Hid (IB ((w.alloc (.cells #[.int .i64 0, .int .u64 0, .int .u64 0, .int .u64 0, .int .u64 0, .int .i64 0, .int .i64 0, .slice none 0 0] 29)).alloc (.cells #[.int .i64 0] 3)) (w.heap.size + 1) 0) := by
    have := IB.new (w.alloc (.cells #[.int .i64 0, .int .u64 0, .int .u64 0, .int .u64 0, .int .u64 0, .int .i64 0, .int .i64 0, .slice none 0 0] 29)) 0
    rw [World.size_alloc] at this
    exact this
  have F1 : Hid (Fg w ((w.alloc (.cells #[.int .i64 0, .int .u64 0, .int .u64 0, .int .u64 0, .int .u64 0, .int .i64 0, .int .i64 0, .slice none 0 0] 29)).alloc (.cells #[.int .i64 0] 3)) g) := ((Fg.refl w g).alloc _).alloc _
  clear ha h
  go_enter_defers Try.func27, Try.ntmps27
  go_wp2_with fail
  refine D1.out.mono ?_
  rintro e w2 ⟨v2, rfl, ⟨d, rfl, hv⟩, hr2, hf2, hi2, ho2⟩
  have T2 := Lib.hid (T1.out.fg hf2 (by omega)); have I2 := Lib.hid (I1.out.fg hf2 (by omega)); have F2 := Lib.hid (F1.out.trans hf2)
  have T3 := Lib.hid (T2.out.to8 d)
  have F3 := Lib.hid (F2.out.ends8 (Nat.le_refl _) (.int .i64 d.op) (.int .u64 (uv (d.q 0))) (.int .u64 (uv (d.q 1))) (.int .u64 (uv (d.q 2))) (.int .u64 (uv (d.q 3))) (.int .i64 d.lo) (.int .i64 d.hi) (.slice d.A d.n d.c))
  have I3 : Hid (IB (set8 w2 w.heap.size (.int .i64 d.op) (.int .u64 (uv (d.q 0))) (.int .u64 (uv (d.q 1))) (.int .u64 (uv (d.q 2))) (.int .u64 (uv (d.q 3))) (.int .i64 d.lo) (.int .i64 d.hi) (.slice d.A d.n d.c)) (w.heap.size + 1) 0) := I2.out.s8 (by omega) _ _ _ _ _ _ _ _
  have R3 := Lib.hid (hr2.ends8 OL.out (Nat.le_refl _) (.int .i64 d.op) (.int .u64 (uv (d.q 0))) (.int .u64 (uv (d.q 1))) (.int .u64 (uv (d.q 2))) (.int .u64 (uv (d.q 3))) (.int .i64 d.lo) (.int .i64 d.hi) (.slice d.A d.n d.c))
  obtain ⟨⟨x0, x1, x2, x3, x4, x5, x6, x7⟩, y0, y1, y2, y3, y4, y5, y6, y7⟩ := T2.out.all
  have D3 := ended_t8 g A c bs s1 _ R3.out
  rw [decide_eq_true hs] at D3
  have D3 := Lib.hid D3
  have hv2 : TV w2 (Sn (w.heap.size + 2) w2) t d := by
    rw [World.size_alloc, World.size_alloc] at hv
    exact hv
  have V3 := Lib.hid (sn_8 hv2 (k := w.heap.size) (M := w.heap.size + 2) (by omega) (Nat.le_refl _) (.int .i64 d.op) (.int .u64 (uv (d.q 0))) (.int .u64 (uv (d.q 1))) (.int .u64 (uv (d.q 2))) (.int .u64 (uv (d.q 3))) (.int .i64 d.lo) (.int .i64 d.hi) (.slice d.A d.n d.c))
  clear D1 T1 I1 F1 hf2 hr2 hv hv2 T2 I2 F2 hi2 ho2 R3
  unfold TD.val
  unfold set8 at T3 F3 I3 D3 V3
  go_wp2_with fail
  refine D3.out.mono ?_
  rintro e w4 ⟨rfl, hr4, hf4⟩
  clear x0 x1 x2 x3 x4 x5 x6 x7 y0 y1 y2 y3 y4 y5 y6 y7
  have T4 := Lib.hid (T3.out.fg hf4 (by omega)); have I4 := Lib.hid (I3.out.fg hf4 (by omega)); have F4 := Lib.hid (F3.out.trans hf4)
  have R4 := Lib.hid hr4
  have V4 := Lib.hid (sn_to V3.out hf4 (by omega) (Nat.le_refl _))
  obtain ⟨⟨x0, x1, x2, x3, x4, x5, x6, x7⟩, y0, y1, y2, y3, y4, y5, y6, y7⟩ := T4.out.all
  have c4 := I4.out.cell
  have f4 := I4.out.frozen
  have T5 := Lib.hid (T4.out.to8 d); have F5 := Lib.hid (F4.out.ends8 (Nat.le_refl _) (.int .i64 d.op) (.int .u64 (uv (d.q 0))) (.int .u64 (uv (d.q 1))) (.int .u64 (uv (d.q 2))) (.int .u64 (uv (d.q 3))) (.int .i64 d.lo) (.int .i64 d.hi) (.slice d.A d.n d.c))
  have I5 := Lib.hid (I4.out.s8 (k := w.heap.size) (by omega) (.int .i64 d.op) (.int .u64 (uv (d.q 0))) (.int .u64 (uv (d.q 1))) (.int .u64 (uv (d.q 2))) (.int .u64 (uv (d.q 3))) (.int .i64 d.lo) (.int .i64 d.hi) (.slice d.A d.n d.c))
  have R5 := Lib.hid (R4.out.ends8 OL.out (Nat.le_refl _) (.int .i64 d.op) (.int .u64 (uv (d.q 0))) (.int .u64 (uv (d.q 1))) (.int .u64 (uv (d.q 2))) (.int .u64 (uv (d.q 3))) (.int .i64 d.lo) (.int .i64 d.hi) (.slice d.A d.n d.c))
  have V5 := Lib.hid (sn_8 V4.out (k := w.heap.size) (M := w.heap.size + 2) (by omega) (Nat.le_refl _) (.int .i64 d.op) (.int .u64 (uv (d.q 0))) (.int .u64 (uv (d.q 1))) (.int .u64 (uv (d.q 2))) (.int .u64 (uv (d.q 3))) (.int .i64 d.lo) (.int .i64 d.hi) (.slice d.A d.n d.c))
  obtain ⟨h1, h2, h3, h4, h5⟩ := ends31 T5.out I5.out V5.out R5.out F5.out OL.out
  have H1 := Lib.hid h1; have H2 := Lib.hid h2; have H3 := Lib.hid h3; have H4 := Lib.hid h4; have H5 := Lib.hid h5
  clear T3 I3 F3 D3 hf4 hr4 T4 I4 F4 R4 V3 V4 T5 F5 I5 R5 V5 h1 h2 h3 h4 h5
  unfold set8 at H1 H2 H3 H4 H5
  go_wp2
  refine leaves_cons (f := 53) (args := #[.pointer (some ⟨w.heap.size, 0, none⟩), .pointer (some ⟨w.heap.size + 1, 0, none⟩)]) (by simp) (by simp [go_sem]) ?_
  refine (catch_idle ⟨w.heap.size, 0, none⟩ ⟨w.heap.size + 1, 0, none⟩ _).mono ?_
  rintro e u' w'' ⟨rfl, rfl, rfl⟩
  exact ⟨_, res31 _ _ _ _ _ _ (H1.out.alloc _) (H2.out.alloc _) rfl rfl, d, rfl, sn_to H3.out ((Fg.refl _ g).alloc _) glt (Nat.le_refl _), H4.out.alloc _, H5.out.alloc _⟩
end Go.Proofs.Ytkljagffccommaa
