/- What a reading that gave up is made into. -/
import Derived.Test.YtkljagffccommaaT1
import Derived.Recover
import Derived.Laws.Pointers
namespace Go.Proofs.Ytkljagffccommaa
open Go.RowKit
theorem ta_nil (w : World) : Sem.run Try.prog (Instr.typeAssert .nilIface 20 72 true) w = .ok (.tuple #[.agg #[.int .i64 0], .bool false]) w := by kernel_rfl
theorem ta_stuck (p : Int) (w : World) : Sem.run Try.prog (Instr.typeAssert (.iface 72 (.agg #[.int .i64 p])) 20 72 true) w = .ok (.tuple #[.agg #[.int .i64 p], .bool true]) w := by kernel_rfl
theorem catch_idle (a b : Addr) (w : World) :
    CallsD Try.prog 53 #[.pointer (some a), .pointer (some b)] .returning w fun e u' w' => u' = .returning ∧ e = .returned (.tuple #[]) ∧ w' = w.alloc (.cells #[.int .i64 0] 72) := by
  refine callsD_of_wpS Try.func53 rfl fun c₀ cs hu => ?_
  apply wpS_seq
  apply wpS_region
  simp [wpOpsS, go_sem, recoverD, hu, Try.ntmps53, Exit.thenS, ta_nil]
  apply wpS_seq
  apply wpS_region
  simp [wpOpsS, go_sem, Exit.thenS]
  refine wpS_cond (t := false) (by simp [Act.eval, Array.replicate]) ?_
  simp only [Bool.false_eq_true, if_false]
  refine wpS_of_wp (wp_skip ?_)
  cases c₀
  simp_all [bodyPostS, results, Try.results53]
def z8 : List Value := [.int .i64 0, .int .u64 0, .int .u64 0, .int .u64 0, .int .u64 0, .int .i64 0, .int .i64 0, .slice none 0 0]
set_option maxHeartbeats 1000000 in
theorem catch_stuck (kt kw : Nat) (p : Nat) (d : TD) (x : Int) (older : List PanicEntry) (w : World) (hne : kt ≠ kw) (ht : TB w kt d) (hc : w.cell? ⟨kw, 0, none⟩ = some (.int .i64 x)) (hf : w.frozen? ⟨kw, 0, none⟩ = false) :
    CallsD Try.prog 53 #[.pointer (some ⟨kt, 0, none⟩), .pointer (some ⟨kw, 0, none⟩)] (.panicking ({ v := .iface 72 (.agg #[.int .i64 (p : Nat)]), recovered := false } :: older)) w fun e u' w' =>
      u' = .panicking ({ v := .iface 72 (.agg #[.int .i64 (p : Nat)]), recovered := true } :: older) ∧ e = .returned (.tuple #[]) ∧
      ∃ m, w' = ((set8 (w.alloc (.cells #[.int .i64 (p : Nat)] 72)) kt (.int .i64 0) (.int .u64 0) (.int .u64 0) (.int .u64 0) (.int .u64 0) (.int .i64 0) (.int .i64 0) (.slice none 0 0)).setCell ⟨kw, 0, none⟩ (.int .i64 (p : Nat))).drewN m := by
  have hlw : kw < w.heap.size := block_lt_of_cell hc
  have htl := ht.lt
  obtain ⟨⟨x0, x1, x2, x3, x4, x5, x6, x7⟩, y0, y1, y2, y3, y4, y5, y6, y7⟩ := (ht.alloc (.cells #[.int .i64 (p : Nat)] 72)).all
  have hc' : (w.alloc (.cells #[.int .i64 (p : Nat)] 72)).cell? ⟨kw, 0, none⟩ = some (.int .i64 x) := (World.cell?_of_block (a := ⟨kw, 0, none⟩) (Below.heap_alloc w _ kw hlw)).trans hc
  have hf' : (w.alloc (.cells #[.int .i64 (p : Nat)] 72)).frozen? ⟨kw, 0, none⟩ = false := by rw [← hf]; unfold World.frozen?; rw [Below.heap_alloc w _ kw hlw]
  have hcp : (w.alloc (.cells #[.int .i64 (p : Nat)] 72)).cell? ⟨w.heap.size, 0, none⟩ = some (.int .i64 (p : Nat)) := by rw [cell_of_row _ w.heap.size 0 #[.int .i64 (p : Nat)] 72 (0, 0) (heap_alloc_new w _)]; rfl
  have n1 : w.heap.size ≠ kt := by omega
  have n2 : w.heap.size ≠ kw := by omega
  refine callsD_of_wpS Try.func53 rfl fun c₀ cs hu => ?_
  apply wpS_seq
  apply wpS_region
  simp [wpOpsS, go_sem, recoverD, hu, Try.ntmps53, Exit.thenS, ta_stuck]
  apply wpS_seq
  apply wpS_region
  simp [wpOpsS, go_sem, Exit.thenS]
  refine wpS_cond (t := true) (by simp [Act.eval, Array.replicate]) ?_
  simp only [if_true]
  refine wpS_of_wp ?_
  generalize w.alloc (.cells #[.int .i64 (p : Nat)] 72) = W at *
  generalize w.heap.size = hs at *
  go_region

  all_goals (simp [bodyPostS, results, Try.results53]; exact ⟨1, rfl⟩)

end Go.Proofs.Ytkljagffccommaa
