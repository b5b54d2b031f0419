/- The extent's functions. -/
import Derived.Test.YtnaecagmcpndhaaJ8
namespace Go.Proofs.Ytnaecagmcpndhaa
open Go.RowKit
/-- a number that may be told -/
def Sm (a : Int) : Prop := 0 ≤ a ∧ a ≤ 1099511627776
def plusF (a b : Int) : Int := if a + b ≤ 1099511627776 then a + b else 1099511627776
def timesF (a b : Int) : Int := if a * b ≤ 1099511627776 then a * b else 1099511627776
theorem plusF_sm {a b : Int} (ha : Sm a) (hb : Sm b) : Sm (plusF a b) := by unfold Sm plusF at *; split <;> omega
theorem timesF_sm {a b : Int} (ha : Sm a) (hb : 0 ≤ b) : Sm (timesF a b) := by
  unfold Sm timesF at *
  have := Int.mul_nonneg ha.1 hb
  split <;> omega
theorem wrapEq (x : Int) : IntKind.i64.wrap x = wrap64 x := by rw [IntKind.wrap_i64]; unfold wrap64; omega
theorem below3 (w : World) (a b c : Obj) : Below w.heap.size w (((w.alloc a).alloc b).alloc c) := (((Below.refl _ _).alloc (Nat.le_refl _) _).alloc (by simp) _).alloc (by simp; omega) _
theorem below2 (w : World) (a b : Obj) : Below w.heap.size w ((w.alloc a).alloc b) := ((Below.refl _ _).alloc (Nat.le_refl _) _).alloc (by simp) _
theorem plus_any (a b : Int) (w : World) (ha : Sm a) (hb : Sm b) : Calls Try.prog 43 #[.int .i64 a, .int .i64 b] w fun e w' => e = .returned (.int .i64 (plusF a b)) ∧ w = w' := by
  unfold Sm at ha hb
  have q : IntKind.i64.wrap (a + b) = a + b := by rw [IntWalk.i64_in _ (by omega)]
  unfold plusF
  by_cases h : a + b ≤ 1099511627776
  · rw [if_pos h]
    go_enter Try.func43, Try.ntmps43
    go_wp2
    go_ret
    exact ⟨rfl, rfl⟩
  · rw [if_neg h]
    go_enter Try.func43, Try.ntmps43
    go_wp2
    go_ret
    exact ⟨rfl, rfl⟩
theorem times_any (a b : Int) (w : World) (ha : Sm a) (hb : 0 ≤ b ∧ b ≤ 200) : Calls Try.prog 44 #[.int .i64 a, .int .i64 b] w fun e w' => e = .returned (.int .i64 (timesF a b)) ∧ w = w' := by
  unfold Sm at ha
  by_cases h0 : a = 0
  · subst h0
    go_enter Try.func44, Try.ntmps44
    go_wp2
    go_ret
    exact ⟨by simp [timesF], rfl⟩
  · have q0 : (a != 0) = true := by rw [bne_iff_ne]; exact h0
    have key := Int.le_ediv_iff_mul_le (a := b) (b := 1099511627776) (c := a) (by omega)
    by_cases hq : b ≤ 1099511627776 / a
    · have h1 := key.1 hq
      have e : b * a = a * b := Int.mul_comm b a
      have hn := Int.mul_nonneg ha.1 hb.1
      have q1 : ¬ 1099511627776 / a < b := by omega
      have q2 : wrap64 (a * b) = a * b := by rw [← wrapEq]; exact IntWalk.i64_in _ (by omega)
      have R : Hid (timesF a b = a * b) := by show timesF a b = a * b; unfold timesF; rw [if_pos (by omega)]
      clear key h1 e hn
      go_enter Try.func44, Try.ntmps44
      go_wp2
      go_ret
      rw [R.out]
      exact ⟨rfl, rfl⟩
    · have q1 : 1099511627776 / a < b := by omega
      have e : b * a = a * b := Int.mul_comm b a
      have R : Hid (timesF a b = 1099511627776) := by show timesF a b = _; unfold timesF; rw [if_neg (fun h => hq (key.2 (by omega)))]
      clear key e hq
      go_enter Try.func44, Try.ntmps44
      go_wp2
      go_ret
      rw [R.out]
      exact ⟨rfl, rfl⟩
theorem copies_any (a b : Int) (w : World) (ha : 0 ≤ a ∧ a ≤ 200) : Calls Try.prog 45 #[.int .i64 a, .int .i64 b] w fun e w' => e = .returned (.int .i64 (if b = -1 then (if a = 0 then 1 else a) else b)) ∧ w = w' := by
  by_cases hb : b = -1
  · subst hb
    rw [if_pos rfl]
    by_cases h : a = 0
    · subst h
      rw [if_pos rfl]
      go_enter Try.func45, Try.ntmps45
      go_wp2
      go_ret
      exact ⟨rfl, rfl⟩
    · rw [if_neg h]
      have q : 1 ≤ a := by omega
      go_enter Try.func45, Try.ntmps45
      go_wp2
      go_ret
      first | exact ⟨rfl, rfl⟩ | exact ⟨by simp; omega, rfl⟩
  · have q0 : (b != -1) = true := by rw [bne_iff_ne]; exact hb
    rw [if_neg hb]
    go_enter Try.func45, Try.ntmps45
    go_wp2
    go_ret
    exact ⟨rfl, rfl⟩
/-- how few, how many, any at all -/
structure Ex where
  l : Int
  m : Int
  a : Bool
def Ex.val (x : Ex) : Value := .agg #[.int .i64 x.l, .int .i64 x.m, .bool x.a]
/-- block b is that extent -/
def EB (w : World) (b : Nat) (x : Ex) : Prop := w.heap[b]? = some (.cells #[.int .i64 x.l, .int .i64 x.m, .bool x.a] 62 (0, 0))
section
variable {w w' : World} {b : Nat} {x : Ex}
theorem EB.lt (h : EB w b x) : b < w.heap.size := by
  rcases Nat.lt_or_ge b w.heap.size with hlt | hge
  · exact hlt
  · unfold EB at h; rw [Array.getElem?_eq_none hge] at h; cases h
theorem EB.below (h : EB w b x) (hb : Below w.heap.size w w') : EB w' b x := (hb.block b h.lt).trans h
theorem EB.alloc (h : EB w b x) (o : Obj) : EB (w.alloc o) b x := h.below (below_new w o)
theorem EB.new (w : World) (x : Ex) : EB (w.alloc (.cells #[.int .i64 x.l, .int .i64 x.m, .bool x.a] 62)) w.heap.size x := heap_alloc_new w _
theorem EB.all (h : EB w b x) : (w.cell? ⟨b, 0, none⟩ = some (.int .i64 x.l) ∧ w.cell? ⟨b, 1, none⟩ = some (.int .i64 x.m) ∧ w.cell? ⟨b, 2, none⟩ = some (.bool x.a)) ∧ w.frozen? ⟨b, 0, none⟩ = false ∧ w.frozen? ⟨b, 1, none⟩ = false ∧ w.frozen? ⟨b, 2, none⟩ = false := by
  unfold EB at h
  refine ⟨⟨?_, ?_, ?_⟩, ?_, ?_, ?_⟩
  all_goals first | (rw [cell_of_row w b _ _ 62 (0, 0) h]; rfl) | (simp [World.frozen?, h])
end
theorem nothing_any (w : World) : Calls Try.prog 37 #[] w (Tells w (Ex.val ⟨0, 0, true⟩)) := by
  have E := Lib.hid (EB.new w ⟨0, 0, true⟩)
  go_enter Try.func37, Try.ntmps37
  go_wp2
  obtain ⟨⟨x0, x1, x2⟩, _⟩ := E.out.all
  refine bodyPost_ret (v := Ex.val ⟨0, 0, true⟩) ?_ rfl ⟨rfl, below_new w _⟩
  simp [results, Try.results37, go_sem, Ex.val]
theorem one_any (w : World) : Calls Try.prog 38 #[] w (Tells w (Ex.val ⟨1, 1, true⟩)) := by
  go_enter Try.func38, Try.ntmps38
  go_wp2
  refine bodyPost_ret (v := Ex.val ⟨1, 1, true⟩) ?_ rfl ⟨rfl, below_new w _⟩
  simp [results, Try.results38, go_sem, Ex.val]
def mostF (f : Int → Int → Int) (a b : Int) : Int := if a = -1 ∨ b = -1 then -1 else f a b
def thenF (x y : Ex) : Ex := if x.a && y.a then ⟨plusF x.l y.l, mostF plusF x.m y.m, true⟩ else ⟨0, 0, false⟩
/-- an extent of a right term -/
structure Eo (x : Ex) : Prop where
  l : Sm x.l
  m : x.m = -1 ∨ Sm x.m
set_option maxHeartbeats 1000000 in
theorem then_any (x y : Ex) (w : World) (hx : Eo x) (hy : Eo y) : Calls Try.prog 39 #[x.val, y.val] w (Tells w (thenF x y).val) := by
  obtain ⟨l, m, a⟩ := x
  obtain ⟨l', m', a'⟩ := y
  have D1 := Lib.hid fun W => plus_any l l' W hx.l hy.l
  cases a
  · show Calls Try.prog 39 _ w (Tells w (Ex.val ⟨0, 0, false⟩))
    unfold Ex.val
    go_enter Try.func39, Try.ntmps39
    go_wp2
    refine bodyPost_ret (v := Ex.val ⟨0, 0, false⟩) ?_ rfl ⟨rfl, ?_⟩
    · simp [results, Try.results39, go_sem, Ex.val]
    · exact below3 w _ _ _
  · cases a'
    · show Calls Try.prog 39 _ w (Tells w (Ex.val ⟨0, 0, false⟩))
      unfold Ex.val
      go_enter Try.func39, Try.ntmps39
      go_wp2
      refine bodyPost_ret (v := Ex.val ⟨0, 0, false⟩) ?_ rfl ⟨rfl, ?_⟩
      · simp [results, Try.results39, go_sem, Ex.val]
      · exact below3 w _ _ _
    · show Calls Try.prog 39 _ w (Tells w (Ex.val ⟨plusF l l', mostF plusF m m', true⟩))
      unfold Ex.val
      go_enter Try.func39, Try.ntmps39
      go_wp2_with fail
      refine (D1.out _).mono ?_
      rintro e w1 ⟨rfl, rfl⟩
      clear D1
      by_cases hm : m = -1
      · subst hm
        have R : Hid (mostF plusF (-1) m' = -1) := by show mostF plusF (-1) m' = -1; unfold mostF; rw [if_pos (.inl rfl)]
        go_wp2
        rw [R.out]
        refine bodyPost_ret (v := Ex.val ⟨plusF l l', -1, true⟩) ?_ rfl ⟨rfl, below3 w _ _ _⟩
        simp [results, Try.results39, go_sem, Ex.val]
      · have q1 : (m == -1) = false := by rw [beq_eq_false_iff_ne]; exact hm
        by_cases hm' : m' = -1
        · subst hm'
          have R : Hid (mostF plusF m (-1) = -1) := by show mostF plusF m (-1) = -1; unfold mostF; rw [if_pos (.inr rfl)]
          go_wp2
          rw [R.out]
          refine bodyPost_ret (v := Ex.val ⟨plusF l l', -1, true⟩) ?_ rfl ⟨rfl, below3 w _ _ _⟩
          simp [results, Try.results39, go_sem, Ex.val]
        · have q2 : (m' == -1) = false := by rw [beq_eq_false_iff_ne]; exact hm'
          have R : Hid (mostF plusF m m' = plusF m m') := by show mostF plusF m m' = _; unfold mostF; rw [if_neg (by rintro (h | h); exact hm h; exact hm' h)]
          have D2 := Lib.hid fun W => plus_any m m' W (hx.m.resolve_left hm) (hy.m.resolve_left hm')
          go_wp2_with fail
          refine (D2.out _).mono ?_
          rintro e w1 ⟨rfl, rfl⟩
          clear D2
          go_wp2
          rw [R.out]
          refine bodyPost_ret (v := Ex.val ⟨plusF l l', plusF m m', true⟩) ?_ rfl ⟨rfl, below3 w _ _ _⟩
          simp [results, Try.results39, go_sem, Ex.val]
def orF (x y : Ex) : Ex := if x.a then (if y.a then ⟨min x.l y.l, mostF max x.m y.m, true⟩ else x) else y
set_option maxHeartbeats 1000000 in
theorem exor_any (x y : Ex) (w : World) : Calls Try.prog 40 #[x.val, y.val] w (Tells w (orF x y).val) := by
  obtain ⟨l, m, a⟩ := x
  obtain ⟨l', m', a'⟩ := y
  cases a
  · show Calls Try.prog 40 _ w (Tells w (Ex.val ⟨l', m', a'⟩))
    unfold Ex.val
    go_enter Try.func40, Try.ntmps40
    go_wp2
    refine bodyPost_ret (v := Ex.val ⟨l', m', a'⟩) ?_ rfl ⟨rfl, below3 w _ _ _⟩
    simp [results, Try.results40, go_sem, Ex.val]
  · cases a'
    · show Calls Try.prog 40 _ w (Tells w (Ex.val ⟨l, m, true⟩))
      unfold Ex.val
      go_enter Try.func40, Try.ntmps40
      go_wp2
      refine bodyPost_ret (v := Ex.val ⟨l, m, true⟩) ?_ rfl ⟨rfl, below3 w _ _ _⟩
      simp [results, Try.results40, go_sem, Ex.val]
    · show Calls Try.prog 40 _ w (Tells w (Ex.val ⟨min l l', mostF max m m', true⟩))
      unfold Ex.val
      by_cases hl : l ≤ l'
      · rw [Int.min_eq_left hl]
        by_cases hm : m = -1
        · subst hm
          have R : Hid (mostF max (-1) m' = -1) := by show mostF max (-1) m' = -1; unfold mostF; rw [if_pos (.inl rfl)]
          rw [R.out]
          go_enter Try.func40, Try.ntmps40
          go_wp2
          refine bodyPost_ret (v := Ex.val ⟨l, -1, true⟩) ?_ rfl ⟨rfl, below3 w _ _ _⟩
          simp [results, Try.results40, go_sem, Ex.val]
        · have q1 : (m == -1) = false := by rw [beq_eq_false_iff_ne]; exact hm
          by_cases hm' : m' = -1
          · subst hm'
            have R : Hid (mostF max m (-1) = -1) := by show mostF max m (-1) = -1; unfold mostF; rw [if_pos (.inr rfl)]
            rw [R.out]
            go_enter Try.func40, Try.ntmps40
            go_wp2
            refine bodyPost_ret (v := Ex.val ⟨l, -1, true⟩) ?_ rfl ⟨rfl, below3 w _ _ _⟩
            simp [results, Try.results40, go_sem, Ex.val]
          · have q2 : (m' == -1) = false := by rw [beq_eq_false_iff_ne]; exact hm'
            have R : Hid (mostF max m m' = max m m') := by show mostF max m m' = _; unfold mostF; rw [if_neg (by rintro (h | h); exact hm h; exact hm' h)]
            rw [R.out]
            by_cases hx : m' ≤ m
            · rw [Int.max_eq_left hx]
              go_enter Try.func40, Try.ntmps40
              go_wp2
              refine bodyPost_ret (v := Ex.val ⟨l, m, true⟩) ?_ rfl ⟨rfl, below3 w _ _ _⟩
              simp [results, Try.results40, go_sem, Ex.val]
            · rw [Int.max_eq_right (by omega)]
              have hx' : m < m' := by omega
              go_enter Try.func40, Try.ntmps40
              go_wp2
              refine bodyPost_ret (v := Ex.val ⟨l, m', true⟩) ?_ rfl ⟨rfl, below3 w _ _ _⟩
              simp [results, Try.results40, go_sem, Ex.val]
      · rw [Int.min_eq_right (by omega)]
        have hl' : l' < l := by omega
        by_cases hm : m = -1
        · subst hm
          have R : Hid (mostF max (-1) m' = -1) := by show mostF max (-1) m' = -1; unfold mostF; rw [if_pos (.inl rfl)]
          rw [R.out]
          go_enter Try.func40, Try.ntmps40
          go_wp2
          refine bodyPost_ret (v := Ex.val ⟨l', -1, true⟩) ?_ rfl ⟨rfl, below3 w _ _ _⟩
          simp [results, Try.results40, go_sem, Ex.val]
        · have q1 : (m == -1) = false := by rw [beq_eq_false_iff_ne]; exact hm
          by_cases hm' : m' = -1
          · subst hm'
            have R : Hid (mostF max m (-1) = -1) := by show mostF max m (-1) = -1; unfold mostF; rw [if_pos (.inr rfl)]
            rw [R.out]
            go_enter Try.func40, Try.ntmps40
            go_wp2
            refine bodyPost_ret (v := Ex.val ⟨l', -1, true⟩) ?_ rfl ⟨rfl, below3 w _ _ _⟩
            simp [results, Try.results40, go_sem, Ex.val]
          · have q2 : (m' == -1) = false := by rw [beq_eq_false_iff_ne]; exact hm'
            have R : Hid (mostF max m m' = max m m') := by show mostF max m m' = _; unfold mostF; rw [if_neg (by rintro (h | h); exact hm h; exact hm' h)]
            rw [R.out]
            by_cases hx : m' ≤ m
            · rw [Int.max_eq_left hx]
              go_enter Try.func40, Try.ntmps40
              go_wp2
              refine bodyPost_ret (v := Ex.val ⟨l', m, true⟩) ?_ rfl ⟨rfl, below3 w _ _ _⟩
              simp [results, Try.results40, go_sem, Ex.val]
            · rw [Int.max_eq_right (by omega)]
              have hx' : m < m' := by omega
              go_enter Try.func40, Try.ntmps40
              go_wp2
              refine bodyPost_ret (v := Ex.val ⟨l', m', true⟩) ?_ rfl ⟨rfl, below3 w _ _ _⟩
              simp [results, Try.results40, go_sem, Ex.val]
def repeatF (x : Ex) (lo hi : Int) : Ex := if x.a then ⟨timesF x.l lo, if x.m = 0 ∨ hi = 0 then 0 else mostF timesF x.m hi, true⟩ else ⟨0, 0, decide (lo = 0)⟩
set_option maxHeartbeats 1000000 in
theorem repeated_any (x : Ex) (lo hi : Int) (w : World) (hx : Eo x) (hlo : 0 ≤ lo ∧ lo ≤ 200) (hhi : -1 ≤ hi ∧ hi ≤ 200) : Calls Try.prog 41 #[x.val, .int .i64 lo, .int .i64 hi] w (Tells w (repeatF x lo hi).val) := by
  obtain ⟨l, m, a⟩ := x
  cases a
  · show Calls Try.prog 41 _ w (Tells w (Ex.val ⟨0, 0, decide (lo = 0)⟩))
    unfold Ex.val
    have q : (lo == 0) = decide (lo = 0) := by rw [Bool.eq_iff_iff]; simp
    go_enter Try.func41, Try.ntmps41
    go_wp2
    refine bodyPost_ret (v := Ex.val ⟨0, 0, decide (lo = 0)⟩) ?_ rfl ⟨rfl, below2 w _ _⟩
    simp [results, Try.results41, go_sem, Ex.val]
  · have D1 := Lib.hid fun W => times_any l lo W hx.l hlo
    show Calls Try.prog 41 _ w (Tells w (Ex.val ⟨timesF l lo, if m = 0 ∨ hi = 0 then 0 else mostF timesF m hi, true⟩))
    unfold Ex.val
    by_cases h0 : m = 0
    · subst h0
      rw [if_pos (.inl rfl)]
      go_enter Try.func41, Try.ntmps41
      go_wp2_with fail
      refine (D1.out _).mono ?_
      rintro e w1 ⟨rfl, rfl⟩
      clear D1
      go_wp2
      refine bodyPost_ret (v := Ex.val ⟨timesF l lo, 0, true⟩) ?_ rfl ⟨rfl, below2 w _ _⟩
      simp [results, Try.results41, go_sem, Ex.val]
    have q0 : (m == 0) = false := by rw [beq_eq_false_iff_ne]; exact h0
    by_cases h1 : hi = 0
    · subst h1
      rw [if_pos (.inr rfl)]
      go_enter Try.func41, Try.ntmps41
      go_wp2_with fail
      refine (D1.out _).mono ?_
      rintro e w1 ⟨rfl, rfl⟩
      clear D1
      go_wp2
      refine bodyPost_ret (v := Ex.val ⟨timesF l lo, 0, true⟩) ?_ rfl ⟨rfl, below2 w _ _⟩
      simp [results, Try.results41, go_sem, Ex.val]
    have q1 : (hi == 0) = false := by rw [beq_eq_false_iff_ne]; exact h1
    rw [if_neg (by rintro (h | h); exact h0 h; exact h1 h)]
    by_cases h2 : m = -1
    · subst h2
      have R : Hid (mostF timesF (-1) hi = -1) := by show mostF timesF (-1) hi = -1; unfold mostF; rw [if_pos (.inl rfl)]
      rw [R.out]
      go_enter Try.func41, Try.ntmps41
      go_wp2_with fail
      refine (D1.out _).mono ?_
      rintro e w1 ⟨rfl, rfl⟩
      clear D1
      go_wp2
      refine bodyPost_ret (v := Ex.val ⟨timesF l lo, -1, true⟩) ?_ rfl ⟨rfl, below2 w _ _⟩
      simp [results, Try.results41, go_sem, Ex.val]
    have q2 : (m == -1) = false := by rw [beq_eq_false_iff_ne]; exact h2
    by_cases h3 : hi = -1
    · subst h3
      have R : Hid (mostF timesF m (-1) = -1) := by show mostF timesF m (-1) = -1; unfold mostF; rw [if_pos (.inr rfl)]
      rw [R.out]
      go_enter Try.func41, Try.ntmps41
      go_wp2_with fail
      refine (D1.out _).mono ?_
      rintro e w1 ⟨rfl, rfl⟩
      clear D1
      go_wp2
      refine bodyPost_ret (v := Ex.val ⟨timesF l lo, -1, true⟩) ?_ rfl ⟨rfl, below2 w _ _⟩
      simp [results, Try.results41, go_sem, Ex.val]
    have q3 : (hi == -1) = false := by rw [beq_eq_false_iff_ne]; exact h3
    have R : Hid (mostF timesF m hi = timesF m hi) := by show mostF timesF m hi = _; unfold mostF; rw [if_neg (by rintro (h | h); exact h2 h; exact h3 h)]
    have D2 := Lib.hid fun W => times_any m hi W (hx.m.resolve_left h2) ⟨by omega, hhi.2⟩
    rw [R.out]
    go_enter Try.func41, Try.ntmps41
    go_wp2_with fail
    refine (D1.out _).mono ?_
    rintro e w1 ⟨rfl, rfl⟩
    clear D1
    go_wp2_with fail
    refine (D2.out _).mono ?_
    rintro e w1 ⟨rfl, rfl⟩
    clear D2
    go_wp2
    refine bodyPost_ret (v := Ex.val ⟨timesF l lo, timesF m hi, true⟩) ?_ rfl ⟨rfl, below2 w _ _⟩
    simp [results, Try.results41, go_sem, Ex.val]
end Go.Proofs.Ytnaecagmcpndhaa
