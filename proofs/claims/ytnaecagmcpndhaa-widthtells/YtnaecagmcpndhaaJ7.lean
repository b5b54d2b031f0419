/- What a reading that gave up is made into. All of a text, read. All of a text, read to its end. -/
import Derived.Test.YtnaecagmcpndhaaJ5
import Derived.Recover
import Derived.Laws.Pointers
namespace Go.Proofs.Ytnaecagmcpndhaa
open Go.RowKit
theorem ta_nil (w : World) : Sem.run Try.prog (Instr.typeAssert .nilIface 20 70 true) w = .ok (.tuple #[.agg #[.int .i64 0], .bool false]) w := by kernel_rfl
theorem ta_stuck (p : Int) (w : World) : Sem.run Try.prog (Instr.typeAssert (.iface 70 (.agg #[.int .i64 p])) 20 70 true) w = .ok (.tuple #[.agg #[.int .i64 p], .bool true]) w := by kernel_rfl
theorem catch_idle (a b : Addr) (w : World) :
    CallsD Try.prog 55 #[.pointer (some a), .pointer (some b)] .returning w fun e u' w' => u' = .returning ∧ e = .returned (.tuple #[]) ∧ w' = w.alloc (.cells #[.int .i64 0] 70) := by
  refine callsD_of_wpS Try.func55 rfl fun c₀ cs hu => ?_
  apply wpS_seq
  apply wpS_region
  simp [wpOpsS, go_sem, recoverD, hu, Try.ntmps55, Exit.thenS, ta_nil]
  apply wpS_seq
  apply wpS_region
  simp [wpOpsS, go_sem, Exit.thenS]
  refine wpS_cond (t := false) (by simp [Act.eval, Array.replicate]) ?_
  simp only [Bool.false_eq_true, if_false]
  refine wpS_of_wp (wp_skip ?_)
  cases c₀
  simp_all [bodyPostS, results, Try.results55]
def z8 : List Value := [.int .i64 0, .int .u64 0, .int .u64 0, .int .u64 0, .int .u64 0, .int .i64 0, .int .i64 0, .slice none 0 0]
set_option maxHeartbeats 1000000 in
theorem catch_stuck (kt kw : Nat) (p : Nat) (d : TD) (x : Int) (older : List PanicEntry) (w : World) (hne : kt ≠ kw) (ht : TB w kt d) (hc : w.cell? ⟨kw, 0, none⟩ = some (.int .i64 x)) (hf : w.frozen? ⟨kw, 0, none⟩ = false) :
    CallsD Try.prog 55 #[.pointer (some ⟨kt, 0, none⟩), .pointer (some ⟨kw, 0, none⟩)] (.panicking ({ v := .iface 70 (.agg #[.int .i64 (p : Nat)]), recovered := false } :: older)) w fun e u' w' =>
      u' = .panicking ({ v := .iface 70 (.agg #[.int .i64 (p : Nat)]), recovered := true } :: older) ∧ e = .returned (.tuple #[]) ∧
      ∃ m, w' = ((set8 (w.alloc (.cells #[.int .i64 (p : Nat)] 70)) kt (.int .i64 0) (.int .u64 0) (.int .u64 0) (.int .u64 0) (.int .u64 0) (.int .i64 0) (.int .i64 0) (.slice none 0 0)).setCell ⟨kw, 0, none⟩ (.int .i64 (p : Nat))).drewN m := by
  have hlw : kw < w.heap.size := block_lt_of_cell hc
  have htl := ht.lt
  obtain ⟨⟨x0, x1, x2, x3, x4, x5, x6, x7⟩, y0, y1, y2, y3, y4, y5, y6, y7⟩ := (ht.alloc (.cells #[.int .i64 (p : Nat)] 70)).all
  have hc' : (w.alloc (.cells #[.int .i64 (p : Nat)] 70)).cell? ⟨kw, 0, none⟩ = some (.int .i64 x) := (World.cell?_of_block (a := ⟨kw, 0, none⟩) (Below.heap_alloc w _ kw hlw)).trans hc
  have hf' : (w.alloc (.cells #[.int .i64 (p : Nat)] 70)).frozen? ⟨kw, 0, none⟩ = false := by rw [← hf]; unfold World.frozen?; rw [Below.heap_alloc w _ kw hlw]
  have hcp : (w.alloc (.cells #[.int .i64 (p : Nat)] 70)).cell? ⟨w.heap.size, 0, none⟩ = some (.int .i64 (p : Nat)) := by rw [cell_of_row _ w.heap.size 0 #[.int .i64 (p : Nat)] 70 (0, 0) (heap_alloc_new w _)]; rfl
  have n1 : w.heap.size ≠ kt := by omega
  have n2 : w.heap.size ≠ kw := by omega
  refine callsD_of_wpS Try.func55 rfl fun c₀ cs hu => ?_
  apply wpS_seq
  apply wpS_region
  simp [wpOpsS, go_sem, recoverD, hu, Try.ntmps55, Exit.thenS, ta_stuck]
  apply wpS_seq
  apply wpS_region
  simp [wpOpsS, go_sem, Exit.thenS]
  refine wpS_cond (t := true) (by simp [Act.eval, Array.replicate]) ?_
  simp only [if_true]
  refine wpS_of_wp ?_
  generalize w.alloc (.cells #[.int .i64 (p : Nat)] 70) = W at *
  generalize w.heap.size = hs at *
  go_region

  all_goals (simp [bodyPostS, results, Try.results55]; exact ⟨1, rfl⟩)

end Go.Proofs.Ytnaecagmcpndhaa
namespace Go.Proofs.Ytnaecagmcpndhaa
open Go.RowKit
/-- block k is that number -/
def IB (w : World) (k : Nat) (x : Int) : Prop := w.heap[k]? = some (.cells #[.int .i64 x] 3 (0, 0))
section
variable {w w' : World} {k g : Nat} {x : Int}
theorem IB.lt (h : IB w k x) : k < w.heap.size := by
  rcases Nat.lt_or_ge k w.heap.size with hlt | hge
  · exact hlt
  · unfold IB at h; rw [Array.getElem?_eq_none hge] at h; cases h
theorem IB.fg (h : IB w k x) (hf : Fg w w' g) (hne : k ≠ g) : IB w' k x := (hf.block k h.lt hne).trans h
theorem IB.cell (h : IB w k x) : w.cell? ⟨k, 0, none⟩ = some (.int .i64 x) := by rw [cell_of_row w k 0 _ 3 (0, 0) h]; rfl
theorem IB.frozen (h : IB w k x) : w.frozen? ⟨k, 0, none⟩ = false := by simp [World.frozen?, show w.heap[k]? = _ from h]
end
theorem res31 (W : World) (k j : Nat) (d : TD) (x : Int) (T : Array Value) (h : TB W k d) (hx : IB W j x) (hT : T[2]? = some (.pointer (some ⟨k, 0, none⟩))) (hU : T[3]? = some (.pointer (some ⟨j, 0, none⟩))) : (results Try.f31 T).run Try.prog W = .ok (.tuple #[d.val, .int .i64 x]) W := by
  obtain ⟨⟨x0, x1, x2, x3, x4, x5, x6, x7⟩, _⟩ := h.all
  have c0 := hx.cell
  simp [results, Try.results31, go_sem, TD.val, hT, hU, x0, x1, x2, x3, x4, x5, x6, x7, c0]
theorem TB.to8 {w : World} {k : Nat} {d0 : TD} (h : TB w k d0) (d : TD) : TB (set8 w k (.int .i64 d.op) (.int .u64 (uv (d.q 0))) (.int .u64 (uv (d.q 1))) (.int .u64 (uv (d.q 2))) (.int .u64 (uv (d.q 3))) (.int .i64 d.lo) (.int .i64 d.hi) (.slice d.A d.n d.c)) k d := by
  unfold TB at h ⊢
  simp [set8, World.setCell, Array.getElem?_modify, h, TD.cells]
theorem TB.z8 {w : World} {k : Nat} {d0 : TD} (h : TB w k d0) : TB (set8 w k (.int .i64 0) (.int .u64 0) (.int .u64 0) (.int .u64 0) (.int .u64 0) (.int .i64 0) (.int .i64 0) (.slice none 0 0)) k zT := h.to8 zT
theorem TB.off {w : World} {k : Nat} {d : TD} (h : TB w k d) (j m : Nat) (v : Value) (hne : k ≠ j) : TB ((w.setCell ⟨j, 0, none⟩ v).drewN m) k d := (Below.heap_setCell w ⟨j, 0, none⟩ v k hne).trans h
theorem IB.put {w : World} {k : Nat} {x : Int} (h : IB w k x) (y : Int) (m : Nat) : IB ((w.setCell ⟨k, 0, none⟩ (.int .i64 y)).drewN m) k y := by
  unfold IB at h ⊢
  show (w.setCell ⟨k, 0, none⟩ (.int .i64 y)).heap[k]? = _
  simp [World.setCell, Array.getElem?_modify, h]
theorem IB.s8 {w : World} {k j : Nat} {x : Int} (h : IB w j x) (hne : j ≠ k) (a0 a1 a2 a3 a4 a5 a6 a7 : Value) : IB (set8 w k a0 a1 a2 a3 a4 a5 a6 a7) j x := (set8_heap w k j a0 a1 a2 a3 a4 a5 a6 a7 hne).trans h
theorem IB.alloc {w : World} {k : Nat} {x : Int} (h : IB w k x) (o : Obj) : IB (w.alloc o) k x := (Below.heap_alloc w o k h.lt).trans h
theorem ended_t8 (g : Nat) (A : Option Addr) (c : Nat) (bs : List Nat) (s : St) (w : World) (h : Rd w g A c bs s) :
    Calls Try.prog 57 #[.pointer (some ⟨g, 0, none⟩)] w (To w g A c bs s (.bool (decide (s.i = bs.length)))) :=
  (ended_any g A c bs s w h).mono fun e w' ⟨h1, m, h2⟩ => ⟨h1, by rw [h2]; exact h.drewN m, by rw [h2]; exact (Fg.refl _ _).drewN m⟩
theorem IB.new (w : World) (x : Int) : IB (w.alloc (.cells #[.int .i64 x] 3)) w.heap.size x := heap_alloc_new w _
/-- what the deferred call leaves where the reading gave up -/
theorem caught {w : World} {g kt kw p : Nat} {d : TD} {x : Int} (ht : TB w kt d) (hw : IB w kw x) (hne : kt ≠ kw) (m : Nat) :
    TB (((set8 (w.alloc (.cells #[.int .i64 (p : Nat)] 70)) kt (.int .i64 0) (.int .u64 0) (.int .u64 0) (.int .u64 0) (.int .u64 0) (.int .i64 0) (.int .i64 0) (.slice none 0 0)).setCell ⟨kw, 0, none⟩ (.int .i64 (p : Nat))).drewN m) kt zT ∧
    IB (((set8 (w.alloc (.cells #[.int .i64 (p : Nat)] 70)) kt (.int .i64 0) (.int .u64 0) (.int .u64 0) (.int .u64 0) (.int .u64 0) (.int .i64 0) (.int .i64 0) (.slice none 0 0)).setCell ⟨kw, 0, none⟩ (.int .i64 (p : Nat))).drewN m) kw (p : Nat) ∧
    ∀ w0, Fg w0 w g → w0.heap.size ≤ kt → w0.heap.size ≤ kw → Fg w0 (((set8 (w.alloc (.cells #[.int .i64 (p : Nat)] 70)) kt (.int .i64 0) (.int .u64 0) (.int .u64 0) (.int .u64 0) (.int .u64 0) (.int .i64 0) (.int .i64 0) (.slice none 0 0)).setCell ⟨kw, 0, none⟩ (.int .i64 (p : Nat))).drewN m) g := by
  refine ⟨?_, ?_, fun w0 hf h1 h2 => (((hf.alloc _).ends8 h1 _ _ _ _ _ _ _ _).set_new h2 _).drewN m⟩
  · exact (ht.alloc (.cells #[.int .i64 (p : Nat)] 70)).z8.off kw m _ hne
  · exact ((hw.alloc (.cells #[.int .i64 (p : Nat)] 70)).s8 (Ne.symm hne) _ _ _ _ _ _ _ _).put _ m

set_option maxHeartbeats 2000000 in
theorem whole_up (g : Nat) (A : Option Addr) (c : Nat) (bs : List Nat) (s : St) (p : Nat) (w : World) (h : Rd w g A c bs s)
    (ha : ∀ W, Rd W g A c bs s → Calls Try.prog 56 #[.pointer (some ⟨g, 0, none⟩)] W (Does W g A c bs s 0 (.error p) (isTm W.heap.size))) :
    Calls Try.prog 31 #[.pointer (some ⟨g, 0, none⟩)] w fun e w' => e = .returned (.tuple #[zT.val, .int .i64 (p : Nat)]) ∧ Fg w w' g := by
  have hmf : ∀ (fn : Fn) (first cap : Array Value) (w : World), (Instr.makeFunc fn first cap).run Try.prog w = .ok (.func fn first cap) w := fun _ _ _ _ => rfl
  have glt := h.lt
  have D1 := Lib.hid (ha _ ((h.alloc (.cells #[.int .i64 0, .int .u64 0, .int .u64 0, .int .u64 0, .int .u64 0, .int .i64 0, .int .i64 0, .slice none 0 0] 29)).alloc (.cells #[.int .i64 0] 3)))
  have T1 : Hid (TB ((w.alloc (.cells #[.int .i64 0, .int .u64 0, .int .u64 0, .int .u64 0, .int .u64 0, .int .i64 0, .int .i64 0, .slice none 0 0] 29)).alloc (.cells #[.int .i64 0] 3)) w.heap.size zT) := (TB.new w zT).alloc _
  have I1 : Hid (IB ((w.alloc (.cells #[.int .i64 0, .int .u64 0, .int .u64 0, .int .u64 0, .int .u64 0, .int .i64 0, .int .i64 0, .slice none 0 0] 29)).alloc (.cells #[.int .i64 0] 3)) (w.heap.size + 1) 0) := by
    have := IB.new (w.alloc (.cells #[.int .i64 0, .int .u64 0, .int .u64 0, .int .u64 0, .int .u64 0, .int .i64 0, .int .i64 0, .slice none 0 0] 29)) 0
    rw [World.size_alloc] at this
    exact this
  have F1 : Hid (Fg w ((w.alloc (.cells #[.int .i64 0, .int .u64 0, .int .u64 0, .int .u64 0, .int .u64 0, .int .i64 0, .int .i64 0, .slice none 0 0] 29)).alloc (.cells #[.int .i64 0] 3)) g) := ((Fg.refl w g).alloc _).alloc _
  clear ha h
  go_enter_defers Try.func31, Try.ntmps31
  go_wp2_with fail
  refine D1.out.mono ?_
  rintro e w2 ⟨rfl, hf2⟩
  have T2 := Lib.hid (T1.out.fg hf2 (by omega)); have I2 := Lib.hid (I1.out.fg hf2 (by omega)); have F2 := Lib.hid (F1.out.trans hf2)
  clear D1 T1 I1 F1 hf2
  go_wp2
  refine leaves_cons (f := 55) (args := #[.pointer (some ⟨w.heap.size, 0, none⟩), .pointer (some ⟨w.heap.size + 1, 0, none⟩)]) (by simp) (by simp [go_sem]) ?_
  refine (catch_stuck w.heap.size (w.heap.size + 1) p zT 0 [] w2 (by omega) T2.out I2.out.cell I2.out.frozen).mono ?_
  rintro e u' w'' ⟨rfl, rfl, m, rfl⟩
  obtain ⟨h1, h2, h3⟩ := caught (g := g) (p := p) T2.out I2.out (by omega) m
  exact ⟨_, res31 _ _ _ _ _ _ h1 h2 rfl rfl, rfl, h3 w F2.out (Nat.le_refl _) (Nat.le_succ _)⟩

set_option maxHeartbeats 2000000 in
theorem whole_rest (g : Nat) (A : Option Addr) (c : Nat) (bs : List Nat) (s : St) (t : Tm) (s1 : St) (w : World) (h : Rd w g A c bs s) (hs : s1.i ≠ bs.length)
    (ha : ∀ W, Rd W g A c bs s → Calls Try.prog 56 #[.pointer (some ⟨g, 0, none⟩)] W (Does W g A c bs s 0 (.ok (t, s1)) (isTm W.heap.size))) :
    Calls Try.prog 31 #[.pointer (some ⟨g, 0, none⟩)] w fun e w' => e = .returned (.tuple #[zT.val, .int .i64 (s1.i : Nat)]) ∧ Fg w w' g := by
  have hmf : ∀ (fn : Fn) (first cap : Array Value) (w : World), (Instr.makeFunc fn first cap).run Try.prog w = .ok (.func fn first cap) w := fun _ _ _ _ => rfl
  have glt := h.lt
  have OL := Lib.hid h.old
  have D1 := Lib.hid (ha _ ((h.alloc (.cells #[.int .i64 0, .int .u64 0, .int .u64 0, .int .u64 0, .int .u64 0, .int .i64 0, .int .i64 0, .slice none 0 0] 29)).alloc (.cells #[.int .i64 0] 3)))
  have T1 : Hid (TB ((w.alloc (.cells #[.int .i64 0, .int .u64 0, .int .u64 0, .int .u64 0, .int .u64 0, .int .i64 0, .int .i64 0, .slice none 0 0] 29)).alloc (.cells #[.int .i64 0] 3)) w.heap.size zT) := (TB.new w zT).alloc _
  have I1 : Hid (IB ((w.alloc (.cells #[.int .i64 0, .int .u64 0, .int .u64 0, .int .u64 0, .int .u64 0, .int .i64 0, .int .i64 0, .slice none 0 0] 29)).alloc (.cells #[.int .i64 0] 3)) (w.heap.size + 1) 0) := by
    have := IB.new (w.alloc (.cells #[.int .i64 0, .int .u64 0, .int .u64 0, .int .u64 0, .int .u64 0, .int .i64 0, .int .i64 0, .slice none 0 0] 29)) 0
    rw [World.size_alloc] at this
    exact this
  have F1 : Hid (Fg w ((w.alloc (.cells #[.int .i64 0, .int .u64 0, .int .u64 0, .int .u64 0, .int .u64 0, .int .i64 0, .int .i64 0, .slice none 0 0] 29)).alloc (.cells #[.int .i64 0] 3)) g) := ((Fg.refl w g).alloc _).alloc _
  clear ha h
  go_enter_defers Try.func31, Try.ntmps31
  go_wp2_with fail
  refine D1.out.mono ?_
  rintro e w2 ⟨v2, rfl, ⟨d, rfl, hv⟩, hr2, hf2, hi2, ho2⟩
  have T2 := Lib.hid (T1.out.fg hf2 (by omega)); have I2 := Lib.hid (I1.out.fg hf2 (by omega)); have F2 := Lib.hid (F1.out.trans hf2)
  have T3 := Lib.hid (T2.out.to8 d)
  have F3 := Lib.hid (F2.out.ends8 (Nat.le_refl _) (.int .i64 d.op) (.int .u64 (uv (d.q 0))) (.int .u64 (uv (d.q 1))) (.int .u64 (uv (d.q 2))) (.int .u64 (uv (d.q 3))) (.int .i64 d.lo) (.int .i64 d.hi) (.slice d.A d.n d.c))
  have I3 : Hid (IB (set8 w2 w.heap.size (.int .i64 d.op) (.int .u64 (uv (d.q 0))) (.int .u64 (uv (d.q 1))) (.int .u64 (uv (d.q 2))) (.int .u64 (uv (d.q 3))) (.int .i64 d.lo) (.int .i64 d.hi) (.slice d.A d.n d.c)) (w.heap.size + 1) 0) := I2.out.s8 (by omega) _ _ _ _ _ _ _ _
  have R3 := Lib.hid (hr2.ends8 OL.out (Nat.le_refl _) (.int .i64 d.op) (.int .u64 (uv (d.q 0))) (.int .u64 (uv (d.q 1))) (.int .u64 (uv (d.q 2))) (.int .u64 (uv (d.q 3))) (.int .i64 d.lo) (.int .i64 d.hi) (.slice d.A d.n d.c))
  obtain ⟨⟨x0, x1, x2, x3, x4, x5, x6, x7⟩, y0, y1, y2, y3, y4, y5, y6, y7⟩ := T2.out.all
  have D3 := ended_t8 g A c bs s1 _ R3.out
  rw [decide_eq_false hs] at D3
  have D3 := Lib.hid D3
  clear D1 T1 I1 F1 hf2 hr2 hv T2 I2 F2 hi2 ho2 R3
  unfold TD.val
  unfold set8 at T3 F3 I3 D3
  go_wp2_with fail
  refine D3.out.mono ?_
  rintro e w4 ⟨rfl, hr4, hf4⟩
  have T4 := Lib.hid (T3.out.fg hf4 (by omega)); have I4 := Lib.hid (I3.out.fg hf4 (by omega)); have F4 := Lib.hid (F3.out.trans hf4)
  have D4 := Lib.hid (giveUp_any g A c bs s1 w4 hr4)
  clear T3 I3 F3 D3 hf4 hr4 x0 x1 x2 x3 x4 x5 x6 x7 y0 y1 y2 y3 y4 y5 y6 y7
  go_wp2_with fail
  refine D4.out.mono ?_
  rintro e w5 ⟨rfl, hf5⟩
  have T5 := Lib.hid (T4.out.fg hf5 (by omega)); have I5 := Lib.hid (I4.out.fg hf5 (by omega)); have F5 := Lib.hid (F4.out.trans hf5)
  clear D4 T4 F4 I4 hf5
  go_wp2
  refine leaves_cons (f := 55) (args := #[.pointer (some ⟨w.heap.size, 0, none⟩), .pointer (some ⟨w.heap.size + 1, 0, none⟩)]) (by simp) (by simp [go_sem]) ?_
  refine (catch_stuck w.heap.size (w.heap.size + 1) s1.i d 0 [] w5 (by omega) T5.out I5.out.cell I5.out.frozen).mono ?_
  rintro e u' w'' ⟨rfl, rfl, m, rfl⟩
  obtain ⟨h1, h2, h3⟩ := caught (g := g) (p := s1.i) T5.out I5.out (by omega) m
  exact ⟨_, res31 _ _ _ _ _ _ h1 h2 rfl rfl, rfl, h3 w F5.out (Nat.le_refl _) (Nat.le_succ _)⟩
end Go.Proofs.Ytnaecagmcpndhaa
namespace Go.Proofs.Ytnaecagmcpndhaa
open Go.RowKit
theorem ends31 {W w : World} {g : Nat} {A : Option Addr} {c : Nat} {bs : List Nat} {s : St} {t : Tm} {d : TD} {x : Int} (h1 : TB W w.heap.size d) (h2 : IB W (w.heap.size + 1) x) (h3 : TV W (Sn (w.heap.size + 2) W) t d) (h4 : Rd W g A c bs s) (h5 : Fg w W g) (ol : Old A bs g w.heap.size) :
    TB (W.setCell ⟨w.heap.size + 1, 0, none⟩ (.int .i64 (-1))) w.heap.size d ∧ IB (W.setCell ⟨w.heap.size + 1, 0, none⟩ (.int .i64 (-1))) (w.heap.size + 1) (-1) ∧ TV (W.setCell ⟨w.heap.size + 1, 0, none⟩ (.int .i64 (-1))) (Sn w.heap.size (W.setCell ⟨w.heap.size + 1, 0, none⟩ (.int .i64 (-1)))) t d ∧ Rd (W.setCell ⟨w.heap.size + 1, 0, none⟩ (.int .i64 (-1))) g A c bs s ∧ Fg w (W.setCell ⟨w.heap.size + 1, 0, none⟩ (.int .i64 (-1))) g := by
  have gl := ol.rd
  have hb : ∀ k, k ≠ w.heap.size + 1 → (W.setCell ⟨w.heap.size + 1, 0, none⟩ (.int .i64 (-1))).heap[k]? = W.heap[k]? := fun k hk => Below.heap_setCell W ⟨w.heap.size + 1, 0, none⟩ _ k hk
  have hs : (W.setCell ⟨w.heap.size + 1, 0, none⟩ (.int .i64 (-1))).heap.size = W.heap.size := by simp [World.setCell]
  refine ⟨(hb _ (by omega)).trans h1, h2.put (-1) 0, h3.to fun k hk => ⟨⟨by have := hk.1; omega, by rw [hs]; exact hk.2⟩, fun _ => hb k (by have := hk.1; omega)⟩, ?_, h5.set_new (Nat.le_succ _) _⟩
  exact ⟨(hb g (by omega)).trans h4.block, h4.text.blocks (by rw [hs]; exact Nat.le_refl _) (fun h0 k hk _ => hb k (by have := ol.tx h0 k hk; omega)), h4.far, h4.le, h4.op, h4.len⟩
set_option maxHeartbeats 2000000 in
theorem whole_all (g : Nat) (A : Option Addr) (c : Nat) (bs : List Nat) (s : St) (t : Tm) (s1 : St) (w : World) (h : Rd w g A c bs s) (hs : s1.i = bs.length)
    (ha : ∀ W, Rd W g A c bs s → Calls Try.prog 56 #[.pointer (some ⟨g, 0, none⟩)] W (Does W g A c bs s 0 (.ok (t, s1)) (isTm W.heap.size))) :
    Calls Try.prog 31 #[.pointer (some ⟨g, 0, none⟩)] w fun e w' => ∃ d, e = .returned (.tuple #[d.val, .int .i64 (-1)]) ∧ TV w' (Sn w.heap.size w') t d ∧ Rd w' g A c bs s1 ∧ Fg w w' g := by
  have hmf : ∀ (fn : Fn) (first cap : Array Value) (w : World), (Instr.makeFunc fn first cap).run Try.prog w = .ok (.func fn first cap) w := fun _ _ _ _ => rfl
  have glt := h.lt
  have OL := Lib.hid h.old
  have D1 := Lib.hid (ha _ ((h.alloc (.cells #[.int .i64 0, .int .u64 0, .int .u64 0, .int .u64 0, .int .u64 0, .int .i64 0, .int .i64 0, .slice none 0 0] 29)).alloc (.cells #[.int .i64 0] 3)))
  have T1 : Hid (TB ((w.alloc (.cells #[.int .i64 0, .int .u64 0, .int .u64 0, .int .u64 0, .int .u64 0, .int .i64 0, .int .i64 0, .slice none 0 0] 29)).alloc (.cells #[.int .i64 0] 3)) w.heap.size zT) := (TB.new w zT).alloc _
  have I1 : Hid (IB ((w.alloc (.cells #[.int .i64 0, .int .u64 0, .int .u64 0, .int .u64 0, .int .u64 0, .int .i64 0, .int .i64 0, .slice none 0 0] 29)).alloc (.cells #[.int .i64 0] 3)) (w.heap.size + 1) 0) := by
    have := IB.new (w.alloc (.cells #[.int .i64 0, .int .u64 0, .int .u64 0, .int .u64 0, .int .u64 0, .int .i64 0, .int .i64 0, .slice none 0 0] 29)) 0
    rw [World.size_alloc] at this
    exact this
  have F1 : Hid (Fg w ((w.alloc (.cells #[.int .i64 0, .int .u64 0, .int .u64 0, .int .u64 0, .int .u64 0, .int .i64 0, .int .i64 0, .slice none 0 0] 29)).alloc (.cells #[.int .i64 0] 3)) g) := ((Fg.refl w g).alloc _).alloc _
  clear ha h
  go_enter_defers Try.func31, Try.ntmps31
  go_wp2_with fail
  refine D1.out.mono ?_
  rintro e w2 ⟨v2, rfl, ⟨d, rfl, hv⟩, hr2, hf2, hi2, ho2⟩
  have T2 := Lib.hid (T1.out.fg hf2 (by omega)); have I2 := Lib.hid (I1.out.fg hf2 (by omega)); have F2 := Lib.hid (F1.out.trans hf2)
  have T3 := Lib.hid (T2.out.to8 d)
  have F3 := Lib.hid (F2.out.ends8 (Nat.le_refl _) (.int .i64 d.op) (.int .u64 (uv (d.q 0))) (.int .u64 (uv (d.q 1))) (.int .u64 (uv (d.q 2))) (.int .u64 (uv (d.q 3))) (.int .i64 d.lo) (.int .i64 d.hi) (.slice d.A d.n d.c))
  have I3 : Hid (IB (set8 w2 w.heap.size (.int .i64 d.op) (.int .u64 (uv (d.q 0))) (.int .u64 (uv (d.q 1))) (.int .u64 (uv (d.q 2))) (.int .u64 (uv (d.q 3))) (.int .i64 d.lo) (.int .i64 d.hi) (.slice d.A d.n d.c)) (w.heap.size + 1) 0) := I2.out.s8 (by omega) _ _ _ _ _ _ _ _
  have R3 := Lib.hid (hr2.ends8 OL.out (Nat.le_refl _) (.int .i64 d.op) (.int .u64 (uv (d.q 0))) (.int .u64 (uv (d.q 1))) (.int .u64 (uv (d.q 2))) (.int .u64 (uv (d.q 3))) (.int .i64 d.lo) (.int .i64 d.hi) (.slice d.A d.n d.c))
  obtain ⟨⟨x0, x1, x2, x3, x4, x5, x6, x7⟩, y0, y1, y2, y3, y4, y5, y6, y7⟩ := T2.out.all
  have D3 := ended_t8 g A c bs s1 _ R3.out
  rw [decide_eq_true hs] at D3
  have D3 := Lib.hid D3
  have hv2 : TV w2 (Sn (w.heap.size + 2) w2) t d := by
    rw [World.size_alloc, World.size_alloc] at hv
    exact hv
  have V3 := Lib.hid (sn_8 hv2 (k := w.heap.size) (M := w.heap.size + 2) (by omega) (Nat.le_refl _) (.int .i64 d.op) (.int .u64 (uv (d.q 0))) (.int .u64 (uv (d.q 1))) (.int .u64 (uv (d.q 2))) (.int .u64 (uv (d.q 3))) (.int .i64 d.lo) (.int .i64 d.hi) (.slice d.A d.n d.c))
  clear D1 T1 I1 F1 hf2 hr2 hv hv2 T2 I2 F2 hi2 ho2 R3
  unfold TD.val
  unfold set8 at T3 F3 I3 D3 V3
  go_wp2_with fail
  refine D3.out.mono ?_
  rintro e w4 ⟨rfl, hr4, hf4⟩
  clear x0 x1 x2 x3 x4 x5 x6 x7 y0 y1 y2 y3 y4 y5 y6 y7
  have T4 := Lib.hid (T3.out.fg hf4 (by omega)); have I4 := Lib.hid (I3.out.fg hf4 (by omega)); have F4 := Lib.hid (F3.out.trans hf4)
  have R4 := Lib.hid hr4
  have V4 := Lib.hid (sn_to V3.out hf4 (by omega) (Nat.le_refl _))
  obtain ⟨⟨x0, x1, x2, x3, x4, x5, x6, x7⟩, y0, y1, y2, y3, y4, y5, y6, y7⟩ := T4.out.all
  have c4 := I4.out.cell
  have f4 := I4.out.frozen
  have T5 := Lib.hid (T4.out.to8 d); have F5 := Lib.hid (F4.out.ends8 (Nat.le_refl _) (.int .i64 d.op) (.int .u64 (uv (d.q 0))) (.int .u64 (uv (d.q 1))) (.int .u64 (uv (d.q 2))) (.int .u64 (uv (d.q 3))) (.int .i64 d.lo) (.int .i64 d.hi) (.slice d.A d.n d.c))
  have I5 := Lib.hid (I4.out.s8 (k := w.heap.size) (by omega) (.int .i64 d.op) (.int .u64 (uv (d.q 0))) (.int .u64 (uv (d.q 1))) (.int .u64 (uv (d.q 2))) (.int .u64 (uv (d.q 3))) (.int .i64 d.lo) (.int .i64 d.hi) (.slice d.A d.n d.c))
  have R5 := Lib.hid (R4.out.ends8 OL.out (Nat.le_refl _) (.int .i64 d.op) (.int .u64 (uv (d.q 0))) (.int .u64 (uv (d.q 1))) (.int .u64 (uv (d.q 2))) (.int .u64 (uv (d.q 3))) (.int .i64 d.lo) (.int .i64 d.hi) (.slice d.A d.n d.c))
  have V5 := Lib.hid (sn_8 V4.out (k := w.heap.size) (M := w.heap.size + 2) (by omega) (Nat.le_refl _) (.int .i64 d.op) (.int .u64 (uv (d.q 0))) (.int .u64 (uv (d.q 1))) (.int .u64 (uv (d.q 2))) (.int .u64 (uv (d.q 3))) (.int .i64 d.lo) (.int .i64 d.hi) (.slice d.A d.n d.c))
  obtain ⟨h1, h2, h3, h4, h5⟩ := ends31 T5.out I5.out V5.out R5.out F5.out OL.out
  have H1 := Lib.hid h1; have H2 := Lib.hid h2; have H3 := Lib.hid h3; have H4 := Lib.hid h4; have H5 := Lib.hid h5
  clear T3 I3 F3 D3 hf4 hr4 T4 I4 F4 R4 V3 V4 T5 F5 I5 R5 V5 h1 h2 h3 h4 h5
  unfold set8 at H1 H2 H3 H4 H5
  go_wp2
  refine leaves_cons (f := 55) (args := #[.pointer (some ⟨w.heap.size, 0, none⟩), .pointer (some ⟨w.heap.size + 1, 0, none⟩)]) (by simp) (by simp [go_sem]) ?_
  refine (catch_idle ⟨w.heap.size, 0, none⟩ ⟨w.heap.size + 1, 0, none⟩ _).mono ?_
  rintro e u' w'' ⟨rfl, rfl, rfl⟩
  exact ⟨_, res31 _ _ _ _ _ _ (H1.out.alloc _) (H2.out.alloc _) rfl rfl, d, rfl, sn_to H3.out ((Fg.refl _ g).alloc _) glt (Nat.le_refl _), H4.out.alloc _, H5.out.alloc _⟩
end Go.Proofs.Ytnaecagmcpndhaa
