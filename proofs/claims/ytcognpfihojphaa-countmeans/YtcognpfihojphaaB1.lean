/- The counter that keeps the greatest age alone: its calls. -/
import Derived.Test.YtcognpfihojphaaA2
namespace Go.Proofs.Ytcognpfihojphaa
open Go.RowKit

/-- the three cells that bounds are -/
abbrev bdc (L T : Nat) (S : Bool) (r : List Value) : Array Value := (.int .i64 (L : Nat) :: .int .i64 (T : Nat) :: .bool S :: r).toArray
/-- block g keeps the greatest age -/
def SpB (w : World) (g L T told : Nat) : Prop := Rw w g #[.int .i64 (L : Nat), .int .i64 (T : Nat), .bool true, .int .i64 (told : Nat)] 78

theorem SpB.set_ {w : World} {g L T told : Nat} (h : SpB w g L T told) (n : Nat) : SpB (w.setCell ⟨g, 3, none⟩ (.int .i64 (n : Nat))) g L T n := Rw.set_ h 3 _

set_option maxHeartbeats 1000000 in
theorem spArm_any (g L T told : Nat) (w : World) (h : SpB w g L T told) (hT : T ≤ 1000) (ht : told ≤ T + 1) :
    Calls Try.prog 92 #[.pointer (some ⟨g, 0, none⟩)] w fun e w' => e = .returned (.tuple #[]) ∧ SpB w' g L T (max told 1) ∧ Kp [g] w w' := by
  have H := Lib.hid h
  have c3 : w.cell? ⟨g, 3, none⟩ = some (.int .i64 (told : Nat)) := Rw.cell h 3
  have f3 := Rw.frozen h 3
  have H1 := Lib.hid fun n => h.set_ n
  clear h
  go_enter Try.func92, Try.ntmps92
  go_wp2
  all_goals go_end0
  all_goals refine ⟨rfl, ?_, (Kp.refl _ _).set_ (.inl (by simp)) _⟩
  · rw [show max told 1 = 1 by omega]; exact H1.out 1
  · rw [show max told 1 = told by omega]; exact H1.out told

set_option maxHeartbeats 1000000 in
theorem spDone_any (g L T told : Nat) (w : World) (h : SpB w g L T told) (hT : T ≤ 1000) (hL : L ≤ 1000) (ht : told ≤ T + 1) :
    Calls Try.prog 93 #[.pointer (some ⟨g, 0, none⟩)] w fun e w' => e = .returned (.bool (decide (L < told))) ∧ ∃ n, w' = w.drewN n := by
  have c3 : w.cell? ⟨g, 3, none⟩ = some (.int .i64 (told : Nat)) := Rw.cell h 3
  have c0 : w.cell? ⟨g, 0, none⟩ = some (.int .i64 (L : Nat)) := Rw.cell h 0
  clear h
  go_enter Try.func93, Try.ntmps93
  go_wp2
  go_quiet (fail)
  go_wp2
  go_ret
  exact ⟨rfl, _, rfl⟩

set_option maxHeartbeats 1000000 in
theorem spForget_any (g L T told : Nat) (w : World) (h : SpB w g L T told) :
    Calls Try.prog 96 #[.pointer (some ⟨g, 0, none⟩)] w fun e w' => e = .returned (.tuple #[]) ∧ SpB w' g L T 0 ∧ Kp [g] w w' := by
  have c3 : w.cell? ⟨g, 3, none⟩ = some (.int .i64 (told : Nat)) := Rw.cell h 3
  have f3 := Rw.frozen h 3
  have H1 := Lib.hid (h.set_ 0)
  clear h
  go_enter Try.func96, Try.ntmps96
  go_wp2
  go_end0
  exact ⟨rfl, H1.out, (Kp.refl _ _).set_ (.inl (by simp)) _⟩

set_option maxHeartbeats 1000000 in
theorem spGrow_any (g L T told : Nat) (w : World) (h : SpB w g L T told) (hT : T ≤ 1000) (ht : told ≤ T + 1) :
    Calls Try.prog 97 #[.pointer (some ⟨g, 0, none⟩)] w fun e w' => e = .returned (.tuple #[]) ∧ SpB w' g L T (if 0 < told then min told T + 1 else told) ∧ Kp [g] w w' := by
  have H := Lib.hid h
  have c3 : w.cell? ⟨g, 3, none⟩ = some (.int .i64 (told : Nat)) := Rw.cell h 3
  have c1 : w.cell? ⟨g, 1, none⟩ = some (.int .i64 (T : Nat)) := Rw.cell h 1
  have f3 := Rw.frozen h 3
  have H1 := Lib.hid fun n => h.set_ n
  clear h
  by_cases h0 : 0 < told
  · rw [if_pos h0]
    by_cases hlt : told ≤ T
    · rw [show min told T = told by omega]
      go_enter Try.func97, Try.ntmps97
      go_wp2
      go_region
      all_goals go_wp2
      all_goals (try omega)
      all_goals go_end0
      all_goals exact ⟨rfl, H1.out (told + 1), ((Kp.refl _ _).set_ (.inl (by simp)) _).drew⟩
    · rw [show min told T = T by omega]
      go_enter Try.func97, Try.ntmps97
      go_wp2
      go_region
      all_goals go_wp2
      all_goals (try omega)
      all_goals go_end0
      all_goals exact ⟨rfl, H1.out (T + 1), ((Kp.refl _ _).set_ (.inl (by simp)) _).drew⟩
  · rw [if_neg h0]
    go_enter Try.func97, Try.ntmps97
    go_wp2
    go_end0
    exact ⟨rfl, H.out, Kp.refl _ _⟩
end Go.Proofs.Ytcognpfihojphaa
