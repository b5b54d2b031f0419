/- All of a text, read. -/
import Derived.Test.YtkljagffccommaaT7
import Derived.Test.YtkljagffccommaaT2
namespace Go.Proofs.Ytkljagffccommaa
open Go.RowKit
/-- block k is that number -/
def IB (w : World) (k : Nat) (x : Int) : Prop := w.heap[k]? = some (.cells #[.int .i64 x] 3 (0, 0))
section
variable {w w' : World} {k g : Nat} {x : Int}
theorem IB.lt (h : IB w k x) : k < w.heap.size := by
  rcases Nat.lt_or_ge k w.heap.size with hlt | hge
  · exact hlt
  · unfold IB at h; rw [Array.getElem?_eq_none hge] at h; cases h
theorem IB.fg (h : IB w k x) (hf : Fg w w' g) (hne : k ≠ g) : IB w' k x := (hf.block k h.lt hne).trans h
theorem IB.cell (h : IB w k x) : w.cell? ⟨k, 0, none⟩ = some (.int .i64 x) := by rw [cell_of_row w k 0 _ 3 (0, 0) h]; rfl
theorem IB.frozen (h : IB w k x) : w.frozen? ⟨k, 0, none⟩ = false := by simp [World.frozen?, show w.heap[k]? = _ from h]
end
theorem res31 (W : World) (k j : Nat) (d : TD) (x : Int) (T : Array Value) (h : TB W k d) (hx : IB W j x) (hT : T[2]? = some (.pointer (some ⟨k, 0, none⟩))) (hU : T[3]? = some (.pointer (some ⟨j, 0, none⟩))) : (results Try.f27 T).run Try.prog W = .ok (.tuple #[d.val, .int .i64 x]) W := by
  obtain ⟨⟨x0, x1, x2, x3, x4, x5, x6, x7⟩, _⟩ := h.all
  have c0 := hx.cell
  simp [results, Try.results27, go_sem, TD.val, hT, hU, x0, x1, x2, x3, x4, x5, x6, x7, c0]
theorem TB.to8 {w : World} {k : Nat} {d0 : TD} (h : TB w k d0) (d : TD) : TB (set8 w k (.int .i64 d.op) (.int .u64 (uv (d.q 0))) (.int .u64 (uv (d.q 1))) (.int .u64 (uv (d.q 2))) (.int .u64 (uv (d.q 3))) (.int .i64 d.lo) (.int .i64 d.hi) (.slice d.A d.n d.c)) k d := by
  unfold TB at h ⊢
  simp [set8, World.setCell, Array.getElem?_modify, h, TD.cells]
theorem TB.z8 {w : World} {k : Nat} {d0 : TD} (h : TB w k d0) : TB (set8 w k (.int .i64 0) (.int .u64 0) (.int .u64 0) (.int .u64 0) (.int .u64 0) (.int .i64 0) (.int .i64 0) (.slice none 0 0)) k zT := h.to8 zT
theorem TB.off {w : World} {k : Nat} {d : TD} (h : TB w k d) (j m : Nat) (v : Value) (hne : k ≠ j) : TB ((w.setCell ⟨j, 0, none⟩ v).drewN m) k d := (Below.heap_setCell w ⟨j, 0, none⟩ v k hne).trans h
theorem IB.put {w : World} {k : Nat} {x : Int} (h : IB w k x) (y : Int) (m : Nat) : IB ((w.setCell ⟨k, 0, none⟩ (.int .i64 y)).drewN m) k y := by
  unfold IB at h ⊢
  show (w.setCell ⟨k, 0, none⟩ (.int .i64 y)).heap[k]? = _
  simp [World.setCell, Array.getElem?_modify, h]
theorem IB.s8 {w : World} {k j : Nat} {x : Int} (h : IB w j x) (hne : j ≠ k) (a0 a1 a2 a3 a4 a5 a6 a7 : Value) : IB (set8 w k a0 a1 a2 a3 a4 a5 a6 a7) j x := (set8_heap w k j a0 a1 a2 a3 a4 a5 a6 a7 hne).trans h
theorem IB.alloc {w : World} {k : Nat} {x : Int} (h : IB w k x) (o : Obj) : IB (w.alloc o) k x := (Below.heap_alloc w o k h.lt).trans h
theorem ended_t8 (g : Nat) (A : Option Addr) (c : Nat) (bs : List Nat) (s : St) (w : World) (h : Rd w g A c bs s) :
    Calls Try.prog 55 #[.pointer (some ⟨g, 0, none⟩)] w (To w g A c bs s (.bool (decide (s.i = bs.length)))) :=
  (ended_any g A c bs s w h).mono fun e w' ⟨h1, m, h2⟩ => ⟨h1, by rw [h2]; exact h.drewN m, by rw [h2]; exact (Fg.refl _ _).drewN m⟩
theorem IB.new (w : World) (x : Int) : IB (w.alloc (.cells #[.int .i64 x] 3)) w.heap.size x := heap_alloc_new w _
/-- what the deferred call leaves where the reading gave up -/
theorem caught {w : World} {g kt kw p : Nat} {d : TD} {x : Int} (ht : TB w kt d) (hw : IB w kw x) (hne : kt ≠ kw) (m : Nat) :
    TB (((set8 (w.alloc (.cells #[.int .i64 (p : Nat)] 72)) kt (.int .i64 0) (.int .u64 0) (.int .u64 0) (.int .u64 0) (.int .u64 0) (.int .i64 0) (.int .i64 0) (.slice none 0 0)).setCell ⟨kw, 0, none⟩ (.int .i64 (p : Nat))).drewN m) kt zT ∧
    IB (((set8 (w.alloc (.cells #[.int .i64 (p : Nat)] 72)) kt (.int .i64 0) (.int .u64 0) (.int .u64 0) (.int .u64 0) (.int .u64 0) (.int .i64 0) (.int .i64 0) (.slice none 0 0)).setCell ⟨kw, 0, none⟩ (.int .i64 (p : Nat))).drewN m) kw (p : Nat) ∧
    ∀ w0, Fg w0 w g → w0.heap.size ≤ kt → w0.heap.size ≤ kw → Fg w0 (((set8 (w.alloc (.cells #[.int .i64 (p : Nat)] 72)) kt (.int .i64 0) (.int .u64 0) (.int .u64 0) (.int .u64 0) (.int .u64 0) (.int .i64 0) (.int .i64 0) (.slice none 0 0)).setCell ⟨kw, 0, none⟩ (.int .i64 (p : Nat))).drewN m) g := by
  refine ⟨?_, ?_, fun w0 hf h1 h2 => (((hf.alloc _).ends8 h1 _ _ _ _ _ _ _ _).set_new h2 _).drewN m⟩
  · exact (ht.alloc (.cells #[.int .i64 (p : Nat)] 72)).z8.off kw m _ hne
  · exact ((hw.alloc (.cells #[.int .i64 (p : Nat)] 72)).s8 (Ne.symm hne) _ _ _ _ _ _ _ _).put _ m

set_option maxHeartbeats 2000000 in
theorem whole_up (g : Nat) (A : Option Addr) (c : Nat) (bs : List Nat) (s : St) (p : Nat) (w : World) (h : Rd w g A c bs s)
    (ha : ∀ W, Rd W g A c bs s → Calls Try.prog 54 #[.pointer (some ⟨g, 0, none⟩)] W (Does W g A c bs s 0 (.error p) (isTm W.heap.size))) :
    Calls Try.prog 27 #[.pointer (some ⟨g, 0, none⟩)] w fun e w' => e = .returned (.tuple #[zT.val, .int .i64 (p : Nat)]) ∧ Fg w w' g := by
  have hmf : ∀ (fn : Fn) (first cap : Array Value) (w : World), (Instr.makeFunc fn first cap).run Try.prog w = .ok (.func fn first cap) w := fun _ _ _ _ => rfl
  have glt := h.lt
  have D1 := Lib.hid (ha _ ((h.alloc (.cells #[.int .i64 0, .int .u64 0, .int .u64 0, .int .u64 0, .int .u64 0, .int .i64 0, .int .i64 0, .slice none 0 0] 29)).alloc (.cells #[.int .i64 0] 3)))
  have T1 : Hid (TB ((w.alloc (.cells #[.int .i64 0, .int .u64 0, .int .u64 0, .int .u64 0, .int .u64 0, .int .i64 0, .int .i64 0, .slice none 0 0] 29)).alloc (.cells #[.int .i64 0] 3)) w.heap.size zT) := (TB.new w zT).alloc _
  have I1 : Hid (IB ((w.alloc (.cells #[.int .i64 0, .int .u64 0, .int .u64 0, .int .u64 0, .int .u64 0, .int .i64 0, .int .i64 0, .slice none 0 0] 29)).alloc (.cells #[.int .i64 0] 3)) (w.heap.size + 1) 0) := by
    have := IB.new (w.alloc (.cells #[.int .i64 0, .int .u64 0, .int .u64 0, .int .u64 0, .int .u64 0, .int .i64 0, .int .i64 0, .slice none 0 0] 29)) 0
    rw [World.size_alloc] at this
    exact this
  have F1 : Hid (Fg w ((w.alloc (.cells #[.int .i64 0, .int .u64 0, .int .u64 0, .int .u64 0, .int .u64 0, .int .i64 0, .int .i64 0, .slice none 0 0] 29)).alloc (.cells #[.int .i64 0] 3)) g) := ((Fg.refl w g).alloc _).alloc _
  clear ha h
  go_enter_defers Try.func27, Try.ntmps27
  go_wp2_with fail
  refine D1.out.mono ?_
  rintro e w2 ⟨rfl, hf2⟩
  have T2 := Lib.hid (T1.out.fg hf2 (by omega)); have I2 := Lib.hid (I1.out.fg hf2 (by omega)); have F2 := Lib.hid (F1.out.trans hf2)
  clear D1 T1 I1 F1 hf2
  go_wp2
  refine leaves_cons (f := 53) (args := #[.pointer (some ⟨w.heap.size, 0, none⟩), .pointer (some ⟨w.heap.size + 1, 0, none⟩)]) (by simp) (by simp [go_sem]) ?_
  refine (catch_stuck w.heap.size (w.heap.size + 1) p zT 0 [] w2 (by omega) T2.out I2.out.cell I2.out.frozen).mono ?_
  rintro e u' w'' ⟨rfl, rfl, m, rfl⟩
  obtain ⟨h1, h2, h3⟩ := caught (g := g) (p := p) T2.out I2.out (by omega) m
  exact ⟨_, res31 _ _ _ _ _ _ h1 h2 rfl rfl, rfl, h3 w F2.out (Nat.le_refl _) (Nat.le_succ _)⟩

set_option maxHeartbeats 2000000 in
theorem whole_rest (g : Nat) (A : Option Addr) (c : Nat) (bs : List Nat) (s : St) (t : Tm) (s1 : St) (w : World) (h : Rd w g A c bs s) (hs : s1.i ≠ bs.length)
    (ha : ∀ W, Rd W g A c bs s → Calls Try.prog 54 #[.pointer (some ⟨g, 0, none⟩)] W (Does W g A c bs s 0 (.ok (t, s1)) (isTm W.heap.size))) :
    Calls Try.prog 27 #[.pointer (some ⟨g, 0, none⟩)] w fun e w' => e = .returned (.tuple #[zT.val, .int .i64 (s1.i : Nat)]) ∧ Fg w w' g := by
  have hmf : ∀ (fn : Fn) (first cap : Array Value) (w : World), (Instr.makeFunc fn first cap).run Try.prog w = .ok (.func fn first cap) w := fun _ _ _ _ => rfl
  have glt := h.lt
  have OL := Lib.hid h.old
  have D1 := Lib.hid (ha _ ((h.alloc (.cells #[.int .i64 0, .int .u64 0, .int .u64 0, .int .u64 0, .int .u64 0, .int .i64 0, .int .i64 0, .slice none 0 0] 29)).alloc (.cells #[.int .i64 0] 3)))
  have T1 : Hid (TB ((w.alloc (.cells #[.int .i64 0, .int .u64 0, .int .u64 0, .int .u64 0, .int .u64 0, .int .i64 0, .int .i64 0, .slice none 0 0] 29)).alloc (.cells #[.int .i64 0] 3)) w.heap.size zT) := (TB.new w zT).alloc _
  have I1 : Hid (IB ((w.alloc (.cells #[.int .i64 0, .int .u64 0, .int .u64 0, .int .u64 0, .int .u64 0, .int .i64 0, .int .i64 0, .slice none 0 0] 29)).alloc (.cells #[.int .i64 0] 3)) (w.heap.size + 1) 0) := by
    have := IB.new (w.alloc (.cells #[.int .i64 0, .int .u64 0, .int .u64 0, .int .u64 0, .int .u64 0, .int .i64 0, .int .i64 0, .slice none 0 0] 29)) 0
    rw [World.size_alloc] at this
    exact this
  have F1 : Hid (Fg w ((w.alloc (.cells #[.int .i64 0, .int .u64 0, .int .u64 0, .int .u64 0, .int .u64 0, .int .i64 0, .int .i64 0, .slice none 0 0] 29)).alloc (.cells #[.int .i64 0] 3)) g) := ((Fg.refl w g).alloc _).alloc _
  clear ha h
  go_enter_defers Try.func27, Try.ntmps27
  go_wp2_with fail
  refine D1.out.mono ?_
  rintro e w2 ⟨v2, rfl, ⟨d, rfl, hv⟩, hr2, hf2, hi2, ho2⟩
  have T2 := Lib.hid (T1.out.fg hf2 (by omega)); have I2 := Lib.hid (I1.out.fg hf2 (by omega)); have F2 := Lib.hid (F1.out.trans hf2)
  have T3 := Lib.hid (T2.out.to8 d)
  have F3 := Lib.hid (F2.out.ends8 (Nat.le_refl _) (.int .i64 d.op) (.int .u64 (uv (d.q 0))) (.int .u64 (uv (d.q 1))) (.int .u64 (uv (d.q 2))) (.int .u64 (uv (d.q 3))) (.int .i64 d.lo) (.int .i64 d.hi) (.slice d.A d.n d.c))
  have I3 : Hid (IB (set8 w2 w.heap.size (.int .i64 d.op) (.int .u64 (uv (d.q 0))) (.int .u64 (uv (d.q 1))) (.int .u64 (uv (d.q 2))) (.int .u64 (uv (d.q 3))) (.int .i64 d.lo) (.int .i64 d.hi) (.slice d.A d.n d.c)) (w.heap.size + 1) 0) := I2.out.s8 (by omega) _ _ _ _ _ _ _ _
  have R3 := Lib.hid (hr2.ends8 OL.out (Nat.le_refl _) (.int .i64 d.op) (.int .u64 (uv (d.q 0))) (.int .u64 (uv (d.q 1))) (.int .u64 (uv (d.q 2))) (.int .u64 (uv (d.q 3))) (.int .i64 d.lo) (.int .i64 d.hi) (.slice d.A d.n d.c))
  obtain ⟨⟨x0, x1, x2, x3, x4, x5, x6, x7⟩, y0, y1, y2, y3, y4, y5, y6, y7⟩ := T2.out.all
  have D3 := ended_t8 g A c bs s1 _ R3.out
  rw [decide_eq_false hs] at D3
  have D3 := Lib.hid D3
  clear D1 T1 I1 F1 hf2 hr2 hv T2 I2 F2 hi2 ho2 R3
  unfold TD.val
  unfold set8 at T3 F3 I3 D3
  go_wp2_with fail
  refine D3.out.mono ?_
  rintro e w4 ⟨rfl, hr4, hf4⟩
  have T4 := Lib.hid (T3.out.fg hf4 (by omega)); have I4 := Lib.hid (I3.out.fg hf4 (by omega)); have F4 := Lib.hid (F3.out.trans hf4)
  have D4 := Lib.hid (giveUp_any g A c bs s1 w4 hr4)
  clear T3 I3 F3 D3 hf4 hr4 x0 x1 x2 x3 x4 x5 x6 x7 y0 y1 y2 y3 y4 y5 y6 y7
  go_wp2_with fail
  refine D4.out.mono ?_
  rintro e w5 ⟨rfl, hf5⟩
  have T5 := Lib.hid (T4.out.fg hf5 (by omega)); have I5 := Lib.hid (I4.out.fg hf5 (by omega)); have F5 := Lib.hid (F4.out.trans hf5)
  clear D4 T4 F4 I4 hf5
  go_wp2
  refine leaves_cons (f := 53) (args := #[.pointer (some ⟨w.heap.size, 0, none⟩), .pointer (some ⟨w.heap.size + 1, 0, none⟩)]) (by simp) (by simp [go_sem]) ?_
  refine (catch_stuck w.heap.size (w.heap.size + 1) s1.i d 0 [] w5 (by omega) T5.out I5.out.cell I5.out.frozen).mono ?_
  rintro e u' w'' ⟨rfl, rfl, m, rfl⟩
  obtain ⟨h1, h2, h3⟩ := caught (g := g) (p := s1.i) T5.out I5.out (by omega) m
  exact ⟨_, res31 _ _ _ _ _ _ h1 h2 rfl rfl, rfl, h3 w F5.out (Nat.le_refl _) (Nat.le_succ _)⟩
end Go.Proofs.Ytkljagffccommaa
