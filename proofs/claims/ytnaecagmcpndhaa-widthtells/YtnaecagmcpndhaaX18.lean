/- The document's Most. -/
import Derived.Test.YtnaecagmcpndhaaX17
namespace Go.Proofs.Ytnaecagmcpndhaa
open Go.RowKit
def repM (y hi : Int) : Int := if y = 0 ∨ hi = 0 then 0 else if y < 0 ∨ hi < 0 then -1 else timesF y hi
set_option maxRecDepth 100000 in
set_option maxHeartbeats 2000000 in
theorem most_8 (f : Nat → Bool) (lo hi : Int) (k : Tm) (d : TD) (w : World) (ht : TR w (.mk 8 f lo hi [k]) d) (hhi : -1 ≤ hi ∧ hi ≤ 200) (hs : (spanT k).m = -1 ∨ Sm (spanT k).m) (ha : ∀ (d : TD) (w : World), TR w k d → Calls Try.prog 50 #[d.val] w (Tells w (.bool (spanT k).a))) (ih : (spanT k).a = true → ∀ (d : TD) (w : World), TR w k d → Calls Try.prog 52 #[d.val] w (Tells w (.int .i64 (spanT k).m))) : Calls Try.prog 52 #[d.val] w (Tells w (.int .i64 (if (spanT k).a then repM (spanT k).m hi else 0))) := by
  cases ht with
  | mk _ _ _ _ _ q A c ds hq hl hn hk hr =>
  obtain ⟨dk, rfl⟩ : ∃ dk, ds = [dk] := List.length_eq_one_iff.1 (by rw [hl]; rfl)
  obtain ⟨kb1, off1, rfl, hb1, hc1⟩ := hr (by simp)
  have kr := hk 0 k dk rfl rfl
  have nb := below_new w (.cells #[.int .i64 8, .int .u64 (uv (q 0)), .int .u64 (uv (q 1)), .int .u64 (uv (q 2)), .int .u64 (uv (q 3)), .int .i64 lo, .int .i64 hi, .slice (some ⟨kb1, off1, none⟩) 1 c] 29)
  change Calls Try.prog 52 #[.agg #[.int .i64 8, .int .u64 (uv (q 0)), .int .u64 (uv (q 1)), .int .u64 (uv (q 2)), .int .u64 (uv (q 3)), .int .i64 lo, .int .i64 hi, .slice (some ⟨kb1, off1, none⟩) 1 c]] w _
  have B1 := Lib.hid nb
  have T1 : Hid (TB (w.alloc (.cells #[.int .i64 8, .int .u64 (uv (q 0)), .int .u64 (uv (q 1)), .int .u64 (uv (q 2)), .int .u64 (uv (q 3)), .int .i64 lo, .int .i64 hi, .slice (some ⟨kb1, off1, none⟩) 1 c] 29)) w.heap.size ⟨8, q, lo, hi, some ⟨kb1, off1, none⟩, 1, c⟩) := TB.new w ⟨8, q, lo, hi, some ⟨kb1, off1, none⟩, 1, c⟩
  obtain ⟨⟨x0, x1, x2, x3, x4, x5, x6, x7⟩, -⟩ := T1.out.all
  obtain ⟨a0, a1, a2, a3, a4, a5, a6, a7⟩ := kid_cells nb hb1 hc1 (i := 0) (d := dk) rfl
  simp only [Nat.zero_mul, Nat.add_zero] at a0 a1 a2 a3 a4 a5 a6 a7
  have k1 := kr.keeps nb
  have D1 := Lib.hid (ha dk _ k1)
  have D2 := Lib.hid ih
  have K1 := Lib.hid k1
  have HC := Lib.hid hc1
  clear ih ha hk hr hq kr nb hc1 k1
  generalize (spanT k).a = b at *
  generalize (spanT k).m = y at *
  generalize hR : (if b = true then repM y hi else 0) = rr
  have RR := Lib.hid hR
  clear hR
  unfold TD.val at D1
  go_enter Try.func52, Try.ntmps52
  go_wp2_with fail
  refine D1.out.mono ?_
  rintro e w5 ⟨rfl, hb5⟩
  have W5 : Hid (TB w5 w.heap.size ⟨8, q, lo, hi, some ⟨kb1, off1, none⟩, 1, c⟩ ∧ Below w.heap.size w w5) := ⟨T1.out.below hb5, B1.out.trans (hb5.mono B1.out.size)⟩
  have K5 := Lib.hid (K1.out.keeps hb5)
  clear D1 hb5 a0 a1 a2 a3 a4 a5 a6 a7 x0 x1 x2 x3 x4 x5 x6 x7 K1 T1 B1
  cases b
  · clear D2 HC K5
    have e0 : 0 = rr := by have := RR.out; rw [if_neg (by decide)] at this; exact this
    subst e0
    clear RR
    go_wp2
    go_ret
    exact ⟨rfl, W5.out.2⟩
  · have D3 := Lib.hid (D2.out rfl dk _ K5.out)
    obtain ⟨a0, a1, a2, a3, a4, a5, a6, a7⟩ := kid_cells W5.out.2 hb1 HC.out (i := 0) (d := dk) rfl
    simp only [Nat.zero_mul, Nat.add_zero] at a0 a1 a2 a3 a4 a5 a6 a7
    obtain ⟨⟨x0, x1, x2, x3, x4, x5, x6, x7⟩, -⟩ := W5.out.1.all
    have kbl : kb1 < w5.heap.size := Nat.lt_of_lt_of_le hb1 W5.out.2.size
    clear D2 HC K5 hb1
    unfold TD.val at D3
    have e0 : repM y hi = rr := by have := RR.out; rw [if_pos rfl] at this; exact this
    subst e0
    clear RR
    go_wp2_with fail
    refine D3.out.mono ?_
    rintro e w6 ⟨rfl, hb6⟩
    have W6 : Hid (TB w6 w.heap.size ⟨8, q, lo, hi, some ⟨kb1, off1, none⟩, 1, c⟩ ∧ Below w.heap.size w w6) := ⟨W5.out.1.below hb6, W5.out.2.trans (hb6.mono W5.out.2.size)⟩
    clear D3 W5 hb6 a0 a1 a2 a3 a4 a5 a6 a7 kbl x0 x1 x2 x3 x4 x5 x6 x7
    obtain ⟨⟨x0, x1, x2, x3, x4, x5, x6, x7⟩, -⟩ := W6.out.1.all
    by_cases y0 : y = 0
    · subst y0
      have R : Hid (repM 0 hi = 0) := by show _ = _; unfold repM; rw [if_pos (.inl rfl)]
      go_wp2
      go_ret
      rw [R.out]
      exact ⟨rfl, W6.out.2⟩
    have qy : (y == 0) = false := by rw [beq_eq_false_iff_ne]; exact y0
    by_cases h0 : hi = 0
    · subst h0
      have R : Hid (repM y 0 = 0) := by show _ = _; unfold repM; rw [if_pos (.inr rfl)]
      go_wp2
      go_ret
      rw [R.out]
      exact ⟨rfl, W6.out.2⟩
    have qh : (hi == 0) = false := by rw [beq_eq_false_iff_ne]; exact h0
    by_cases y1 : y < 0
    · have R : Hid (repM y hi = -1) := by show _ = _; unfold repM; rw [if_neg (by omega), if_pos (.inl y1)]
      go_wp2
      go_ret
      rw [R.out]
      exact ⟨rfl, W6.out.2⟩
    by_cases h1 : hi < 0
    · have R : Hid (repM y hi = -1) := by show _ = _; unfold repM; rw [if_neg (by omega), if_pos (.inr h1)]
      go_wp2
      go_ret
      rw [R.out]
      exact ⟨rfl, W6.out.2⟩
    have R : Hid (repM y hi = timesF y hi) := by show _ = _; unfold repM; rw [if_neg (by omega), if_neg (by omega)]
    have D4 := Lib.hid fun W => product_any hi y W (hs.resolve_left (by omega)) ⟨by omega, hhi.2⟩
    clear hs hhi
    go_wp2_with fail
    refine (D4.out _).mono ?_
    rintro e w7 ⟨rfl, rfl⟩
    clear D4
    go_wp2
    go_ret
    rw [R.out]
    exact ⟨rfl, W6.out.2⟩
set_option maxRecDepth 100000 in
set_option maxHeartbeats 2000000 in
theorem mostref_any : ∀ (t : Tm) (d : TD) (w : World), TR w t d → Rw t → (spanT t).a = true → Calls Try.prog 52 #[d.val] w (Tells w (.int .i64 (spanT t).m)) := by
  intro t
  induction t using Tm.ind with
  | h op f lo hi ks ih =>
  intro d w ht hw hA
  have hf := hw.facts
  have hok := Rt.ok _ hw
  have eo : ∀ k ∈ ks, Eo (spanT k) := fun k hk => spanT_eo k (hok.kid hk)
  have ha : ∀ k ∈ ks, ∀ (d : TD) (w : World), TR w k d → Calls Try.prog 50 #[d.val] w (Tells w (.bool (spanT k).a)) := fun k hk d w h => anyref_any k d w h (hw.kid hk)
  have ih' : ∀ k ∈ ks, (spanT k).a = true → ∀ (d : TD) (w : World), TR w k d → Calls Try.prog 52 #[d.val] w (Tells w (.int .i64 (spanT k).m)) := fun k hk h d w ht => ih k hk d w ht (hw.kid hk) h
  by_cases h6 : op = 6
  · subst h6
    rw [span6_a] at hA
    rw [span6_m _ _ _ _ hA eo]
    exact most_6 f lo hi ks d w ht (fun k hk => allA_mem ks k hA hk) (fun k hk => (eo k hk).m) ha ih'
  by_cases h7 : op = 7
  · subst h7
    rw [span7_m _ _ _ _ eo]
    exact most_7 f lo hi ks d w ht (fun k hk => (eo k hk).m) ha ih'
  by_cases h8 : op = 8
  · subst h8
    obtain ⟨k, rfl⟩ : ∃ k, ks = [k] := List.length_eq_one_iff.1 (hf.2.2.2 rfl).1
    have h8 := hf.2.2.2 rfl
    have em := (eo k (by simp)).m
    have e : (spanT (.mk 8 f lo hi [k])).m = if (spanT k).a then repM (spanT k).m hi else 0 := by
      rw [spanT]; simp [repX]; unfold repeatF
      cases (spanT k).a
      · rfl
      · show (if (spanT k).m = 0 ∨ hi = 0 then 0 else mostF timesF (spanT k).m hi) = repM (spanT k).m hi
        unfold repM mostF
        by_cases c1 : (spanT k).m = 0 ∨ hi = 0
        · rw [if_pos c1, if_pos c1]
        · rw [if_neg c1, if_neg c1]
          by_cases c2 : (spanT k).m = -1 ∨ hi = -1
          · rw [if_pos c2, if_pos (by omega)]
          · unfold Sm at em
            rw [if_neg c2, if_neg (by omega)]
    rw [e]
    exact most_8 f lo hi k d w ht ⟨h8.2.2.2.1, h8.2.2.2.2.1⟩ em (ha k (by simp)) (ih' k (by simp))
  have h9 : ¬ op = 9 := by
    intro h; subst h; rw [spanT] at hA; simp at hA
  cases ht with
  | mk _ _ _ _ _ q A c ds hq hl hn hk hr =>
  have B1 := Lib.hid (below_new w (.cells #[.int .i64 op, .int .u64 (uv (q 0)), .int .u64 (uv (q 1)), .int .u64 (uv (q 2)), .int .u64 (uv (q 3)), .int .i64 lo, .int .i64 hi, .slice A ks.length c] 29))
  obtain ⟨⟨x0, x1, x2, x3, x4, x5, x6, x7⟩, -⟩ := (TB.new w ⟨op, q, lo, hi, A, ks.length, c⟩).all
  unfold TD.val
  by_cases h2 : op = 2
  · subst h2
    have R : Hid ((spanT (.mk 2 f lo hi ks)).m = 1) := by
      show _ = _
      rw [spanT] at hA ⊢
      simp at hA ⊢
      cases hz : eqK f noB
      · rfl
      · rw [hz] at hA; simp at hA
    clear ih ih' ha hk hr hw hf hq hok eo hA
    rw [R.out]
    go_enter Try.func52, Try.ntmps52
    go_wp2
    go_ret
    exact ⟨rfl, B1.out⟩
  have q2 : (op == 2) = false := by rw [beq_eq_false_iff_ne]; exact h2
  by_cases h3 : op = 3
  · subst h3
    have R : Hid ((spanT (.mk 3 f lo hi ks)).m = 1) := by show _ = _; rw [spanT]; simp
    clear ih ih' ha hk hr hw hf hq hok eo hA
    rw [R.out]
    go_enter Try.func52, Try.ntmps52
    go_wp2
    go_ret
    exact ⟨rfl, B1.out⟩
  have q3 : (op == 3) = false := by rw [beq_eq_false_iff_ne]; exact h3
  have R : Hid ((spanT (.mk op f lo hi ks)).m = 0) := by show _ = _; rw [spanT, if_pos (by omega)]
  have q6 : (op == 6) = false := by rw [beq_eq_false_iff_ne]; exact h6
  have q7 : (op == 7) = false := by rw [beq_eq_false_iff_ne]; exact h7
  have q8 : (op == 8) = false := by rw [beq_eq_false_iff_ne]; exact h8
  clear ih ih' ha hk hr hw hf hq hok eo hA
  rw [R.out]
  go_enter Try.func52, Try.ntmps52
  go_wp2
  go_ret
  exact ⟨rfl, B1.out⟩
end Go.Proofs.Ytnaecagmcpndhaa
