/- The counter that keeps the moments in a ring: its memory, where one stands, its age. -/
import Derived.Test.YtcognpfihojphaaA2
namespace Go.Proofs.Ytcognpfihojphaa
open Go.RowKit

/-- the cells of a list of numbers -/
def ic (mo : Nat → Int) (n : Nat) : Array Value := ((List.range n).map fun i => Value.int .i64 (mo i)).toArray
theorem ic_get (mo : Nat → Int) (n j : Nat) (h : j < n) : (ic mo n)[j]? = some (.int .i64 (mo j)) := by
  unfold ic; simp [h]
theorem ic_set (mo : Nat → Int) (n j : Nat) (x : Int) : (ic mo n).setIfInBounds j (.int .i64 x) = ic (fun i => if i = j then x else mo i) n := by
  unfold ic
  apply Array.ext
  · simp
  · intro i h1 h2
    simp only [List.size_toArray, List.length_map, List.length_range, Array.size_setIfInBounds] at h1 h2
    simp only [List.getElem_toArray, List.getElem_map, List.getElem_range]
    rw [Array.getElem_setIfInBounds (by simpa using h1)]
    by_cases e : j = i
    · rw [if_pos e, if_pos e.symm]
    · rw [if_neg e, if_neg (fun h => e h.symm)]; simp

/-- the ring's own cells -/
def rgc (m L T : Nat) (S : Bool) (fi n now : Nat) : Array Value :=
  #[.int .i64 (L : Nat), .int .i64 (T : Nat), .bool S, .slice (some ⟨m, 0, none⟩) (T + 1) (T + 1), .int .i64 (fi : Nat), .int .i64 (n : Nat), .int .i64 (now : Nat)]
/-- block g is a ring over the block m -/
def RgB (w : World) (g m L T : Nat) (S : Bool) (fi n now : Nat) (mo : Nat → Int) : Prop :=
  Rw w g (rgc m L T S fi n now) 86 ∧ Rw w m (ic mo (T + 1)) 3 ∧ g ≠ m ∧ fi ≤ T

theorem wrap_sum (a b : Nat) (h : a + b ≤ 9000000) : IntKind.i64.wrap ((a : Int) + (b : Int)) = ((a + b : Nat) : Int) := by
  rw [IntKind.wrap_i64]; omega
theorem tmod_nat (a b : Nat) : ((a : Nat) : Int).tmod ((b : Nat) : Int) = ((a % b : Nat) : Int) := by
  rw [Int.tmod_eq_emod_of_nonneg (Int.natCast_nonneg _)]; exact (Int.natCast_emod a b).symm

set_option maxHeartbeats 1000000 in
theorem at_any (g m L T : Nat) (S : Bool) (fi n now : Nat) (mo : Nat → Int) (i : Nat) (w : World) (h : RgB w g m L T S fi n now mo) (hT : T ≤ 1000) (hi : i ≤ T) :
    Calls Try.prog 86 #[.pointer (some ⟨g, 0, none⟩), .int .i64 (i : Nat)] w fun e w' => e = .returned (.pointer (some ⟨m, (fi + i) % (T + 1), none⟩)) ∧ ∃ k, w' = w.drewN k := by
  obtain ⟨h1, h2, h3, h4⟩ := h
  have c3 : w.cell? ⟨g, 3, none⟩ = some (.slice (some ⟨m, 0, none⟩) (T + 1) (T + 1)) := Rw.cell h1 3
  have c4 : w.cell? ⟨g, 4, none⟩ = some (.int .i64 (fi : Nat)) := Rw.cell h1 4
  have q1 := wrap_sum fi i (by omega)
  generalize fi + i = s at *
  have q5 : 0 ≤ (s : Int) % ((T : Int) + 1) := Int.emod_nonneg _ (by omega)
  have q6 : (s : Int) % ((T : Int) + 1) < (T : Int) + 1 := Int.emod_lt_of_pos _ (by omega)
  clear h1 h2
  go_enter Try.func86, Try.ntmps86
  go_wp2
  go_quiet (fail)
  go_wp2
  go_ret
  exact ⟨rfl, _, rfl⟩

theorem quiet86 (g m L T : Nat) (S : Bool) (fi n now : Nat) (mo : Nat → Int) (i : Nat) (w : World) (k : Nat) (h : RgB w g m L T S fi n now mo) (hT : T ≤ 1000) (hi : i ≤ T) :
    Calls Try.prog 86 #[.pointer (some ⟨g, 0, none⟩), .int .i64 (i : Nat)] (w.drewN k) fun e w'' => e = .returned (.pointer (some ⟨m, (fi + i) % (T + 1), none⟩)) ∧ ∃ j, w'' = w.drewN j :=
  Calls.quiet_of (at_any g m L T S fi n now mo i (w.drewN k) h hT hi)

/-- the moment that has i older ones ahead of it -/
def mon (fi T : Nat) (mo : Nat → Int) (i : Nat) : Int := mo ((fi + i) % (T + 1))
/-- the ages of the moments -/
def Mo (fi T n now : Nat) (mo : Nat → Int) (a : Nat → Nat) : Prop := ∀ i, i < n → mon fi T mo i = (now : Int) - (a i : Int) ∧ a i ≤ now + 1000

set_option maxHeartbeats 1000000 in
theorem age_any (g m L T : Nat) (S : Bool) (fi n now : Nat) (mo : Nat → Int) (a : Nat → Nat) (i : Nat) (w : World) (h : RgB w g m L T S fi n now mo) (hT : T ≤ 1000) (hi : i ≤ T) (hn : i < n) (hw : now ≤ 1000000) (hm : Mo fi T n now mo a) :
    Calls Try.prog 77 #[.pointer (some ⟨g, 0, none⟩), .int .i64 (i : Nat)] w fun e w' => e = .returned (.int .i64 (min (a i) T : Nat)) ∧ ∃ k, w' = w.drewN k := by
  have D := Lib.hid fun k => quiet86 g m L T S fi n now mo i w k h hT hi
  obtain ⟨h1, h2, h3, h4⟩ := h
  have hlt : (fi + i) % (T + 1) < T + 1 := Nat.mod_lt _ (by omega)
  have c6 : w.cell? ⟨g, 6, none⟩ = some (.int .i64 (now : Nat)) := Rw.cell h1 6
  have c1 : w.cell? ⟨g, 1, none⟩ = some (.int .i64 (T : Nat)) := Rw.cell h1 1
  have cm : w.cell? ⟨m, (fi + i) % (T + 1), none⟩ = some (.int .i64 (mon fi T mo i)) := (Rw.cell h2 _).trans (ic_get _ _ _ hlt)
  obtain ⟨e1, e2⟩ := hm i hn
  rw [e1] at cm
  generalize a i = y at *
  generalize (fi + i) % (T + 1) = r at *
  clear h1 h2 e1 hm
  have q1 : IntKind.i64.wrap ((now : Int) - ((now : Int) - (y : Int))) = (y : Int) := by rw [IntKind.wrap_i64]; omega
  by_cases hlt : ¬ T < y
  · rw [show min y T = y by omega]
    go_enter Try.func77, Try.ntmps77
    go_wp2
    go_quiet ((go_at_call 86; exact D.out _))
    go_wp2
    go_ret
    exact ⟨rfl, _, rfl⟩
  · rw [show min y T = T by omega]
    go_enter Try.func77, Try.ntmps77
    go_wp2
    go_quiet ((go_at_call 86; exact D.out _))
    go_wp2
    go_ret
    exact ⟨rfl, _, rfl⟩

theorem quiet77 (g m L T : Nat) (S : Bool) (fi n now : Nat) (mo : Nat → Int) (a : Nat → Nat) (i : Nat) (w : World) (k : Nat) (h : RgB w g m L T S fi n now mo) (hT : T ≤ 1000) (hi : i ≤ T) (hn : i < n) (hw : now ≤ 1000000) (hm : Mo fi T n now mo a) :
    Calls Try.prog 77 #[.pointer (some ⟨g, 0, none⟩), .int .i64 (i : Nat)] (w.drewN k) fun e w'' => e = .returned (.int .i64 (min (a i) T : Nat)) ∧ ∃ j, w'' = w.drewN j :=
  Calls.quiet_of (age_any g m L T S fi n now mo a i (w.drewN k) h hT hi hn hw hm)

set_option maxHeartbeats 1000000 in
theorem rgDone_any (g m L T : Nat) (S : Bool) (fi n now : Nat) (mo : Nat → Int) (a : Nat → Nat) (w : World) (h : RgB w g m L T S fi n now mo) (hT : T ≤ 1000) (hn : n ≤ T + 1) (hw : now ≤ 1000000) (hm : Mo fi T n now mo a) :
    Calls Try.prog 71 #[.pointer (some ⟨g, 0, none⟩)] w fun e w' => e = .returned (.bool (decide (0 < n) && decide (L ≤ min (a 0) T))) ∧ ∃ k, w' = w.drewN k := by
  have D := Lib.hid fun k h0 => quiet77 g m L T S fi n now mo a 0 w k h hT (Nat.zero_le _) h0 hw hm
  obtain ⟨h1, h2, h3, h4⟩ := h
  have c5 : w.cell? ⟨g, 5, none⟩ = some (.int .i64 (n : Nat)) := Rw.cell h1 5
  have c0 : w.cell? ⟨g, 0, none⟩ = some (.int .i64 (L : Nat)) := Rw.cell h1 0
  clear h1 h2 hm
  by_cases h0 : 0 < n
  · have D2 := Lib.hid fun k => D.out k h0
    clear D
    generalize min (a 0) T = y at *
    have e0 : decide (0 < n) = true := decide_eq_true h0
    rw [e0, Bool.true_and]
    have h0' : decide ((n : Int) > 0) = true := decide_eq_true (by omega)
    go_enter Try.func71, Try.ntmps71
    go_wp2
    go_quiet ((go_at_call 77; exact D2.out _))
    go_wp2
    go_ret
    refine ⟨?_, _, rfl⟩
    congr 2
  · have e0 : decide (0 < n) = false := decide_eq_false h0
    rw [e0, Bool.false_and]
    obtain rfl : n = 0 := by omega
    go_enter Try.func71, Try.ntmps71
    go_wp2
    go_quiet (fail)
    go_wp2
    go_ret
    exact ⟨rfl, _, rfl⟩

set_option maxHeartbeats 1000000 in
theorem rgSpent_any (g m L T : Nat) (S : Bool) (fi n now : Nat) (mo : Nat → Int) (a : Nat → Nat) (w : World) (h : RgB w g m L T S fi n now mo) (hT : T ≤ 1000) (hn : n ≤ T + 1) (hw : now ≤ 1000000) (hm : Mo fi T n now mo a) :
    Calls Try.prog 82 #[.pointer (some ⟨g, 0, none⟩)] w fun e w' => e = .returned (.bool (spent T S n a)) ∧ ∃ k, w' = w.drewN k := by
  have D := Lib.hid fun k h0 => quiet77 g m L T S fi n now mo a 1 w k h hT (by omega) h0 hw hm
  have D0 := Lib.hid fun k => quiet86 g m L T S fi n now mo 0 w k h hT (by omega)
  obtain ⟨h1, h2, h3, h4⟩ := h
  have hlt : (fi + 0) % (T + 1) < T + 1 := Nat.mod_lt _ (by omega)
  have c2 : w.cell? ⟨g, 2, none⟩ = some (.bool S) := Rw.cell h1 2
  have c5 : w.cell? ⟨g, 5, none⟩ = some (.int .i64 (n : Nat)) := Rw.cell h1 5
  have c6 : w.cell? ⟨g, 6, none⟩ = some (.int .i64 (now : Nat)) := Rw.cell h1 6
  have c1 : w.cell? ⟨g, 1, none⟩ = some (.int .i64 (T : Nat)) := Rw.cell h1 1
  have cm : w.cell? ⟨m, (fi + 0) % (T + 1), none⟩ = some (.int .i64 (mon fi T mo 0)) := (Rw.cell h2 _).trans (ic_get _ _ _ hlt)
  clear h1 h2
  cases S with
  | true =>
    show Calls _ _ _ _ fun e w' => e = .returned (.bool (decide (1 < n) && decide (min (a 1) T = T))) ∧ ∃ k, w' = w.drewN k
    clear D0 cm hm
    by_cases h0 : 1 < n
    · have D2 := Lib.hid fun k => D.out k h0
      clear D
      generalize min (a 1) T = y at *
      have e0 : decide (1 < n) = true := decide_eq_true h0
      rw [e0, Bool.true_and]
      have h0' : decide ((n : Int) > 1) = true := decide_eq_true (by omega)
      go_enter Try.func82, Try.ntmps82
      go_wp2
      go_quiet ((go_at_call 77; exact D2.out _))
      go_wp2
      go_ret
      refine ⟨?_, _, rfl⟩
      show Ending.returned (Value.bool ((y : Int) == (T : Int))) = _
      congr 2
      rw [Bool.eq_iff_iff]; simp; omega
    · have e0 : decide (1 < n) = false := decide_eq_false h0
      rw [e0, Bool.false_and]
      have h0' : decide ((n : Int) > 1) = false := decide_eq_false (by omega)
      go_enter Try.func82, Try.ntmps82
      go_wp2
      go_quiet (fail)
      go_wp2
      go_ret
      exact ⟨rfl, _, rfl⟩
  | false =>
    show Calls _ _ _ _ fun e w' => e = .returned (.bool (decide (0 < n) && decide (T < a 0))) ∧ ∃ k, w' = w.drewN k
    clear D
    by_cases h0 : 0 < n
    · obtain ⟨e1, e2⟩ := hm 0 h0
      rw [e1] at cm
      generalize a 0 = y at *
      generalize (fi + 0) % (T + 1) = r at *
      clear hm e1
      have q1 : IntKind.i64.wrap ((now : Int) - ((now : Int) - (y : Int))) = (y : Int) := by rw [IntKind.wrap_i64]; omega
      have e0 : decide (0 < n) = true := decide_eq_true h0
      rw [e0, Bool.true_and]
      have h0' : decide ((n : Int) > 0) = true := decide_eq_true (by omega)
      go_enter Try.func82, Try.ntmps82
      go_wp2
      go_quiet ((go_at_call 86; exact D0.out _))
      go_wp2
      go_ret
      refine ⟨?_, _, rfl⟩
      congr 2
    · have e0 : decide (0 < n) = false := decide_eq_false h0
      rw [e0, Bool.false_and]
      obtain rfl : n = 0 := by omega
      go_enter Try.func82, Try.ntmps82
      go_wp2
      go_quiet (fail)
      go_wp2
      go_ret
      exact ⟨rfl, _, rfl⟩
end Go.Proofs.Ytcognpfihojphaa
