/- The document's Least. -/
import Derived.Test.YtnaecagmcpndhaaX15
import Derived.Deep.RegionHeld3
namespace Go.Proofs.Ytnaecagmcpndhaa
open Go.RowKit
/-- a repeat's block and its kid -/
def Kx (w W : World) (b : Nat) (D : TD) (k : Tm) (dk : TD) : Prop := TB W b D ∧ Below w.heap.size w W ∧ TR W k dk
theorem step_kx {w W w' : World} {b : Nat} {D : TD} {k : Tm} {dk : TD} (h : Hid (Kx w W b D k dk)) (hb : Below W.heap.size W w') : Hid (Kx w w' b D k dk) := ⟨h.out.1.below hb, h.out.2.1.trans (hb.mono h.out.2.1.size), h.out.2.2.keeps hb⟩
set_option maxRecDepth 100000 in
set_option maxHeartbeats 2000000 in
theorem least_8 (f : Nat → Bool) (lo hi : Int) (k : Tm) (d : TD) (w : World) (ht : TR w (.mk 8 f lo hi [k]) d) (hlo : 0 ≤ lo ∧ lo ≤ 200) (hs : Sm (spanT k).l) (ha : ∀ (d : TD) (w : World), TR w k d → Calls Try.prog 50 #[d.val] w (Tells w (.bool (spanT k).a))) (ih : (spanT k).a = true → ∀ (d : TD) (w : World), TR w k d → Calls Try.prog 51 #[d.val] w (Tells w (.int .i64 (spanT k).l))) : Calls Try.prog 51 #[d.val] w (Tells w (.int .i64 (if (spanT k).a then timesF (spanT k).l lo else 0))) := by
  cases ht with
  | mk _ _ _ _ _ q A c ds hq hl hn hk hr =>
  obtain ⟨dk, rfl⟩ : ∃ dk, ds = [dk] := List.length_eq_one_iff.1 (by rw [hl]; rfl)
  obtain ⟨kb1, off1, rfl, hb1, hc1⟩ := hr (by simp)
  have kr := hk 0 k dk rfl rfl
  have nb := below_new w (.cells #[.int .i64 8, .int .u64 (uv (q 0)), .int .u64 (uv (q 1)), .int .u64 (uv (q 2)), .int .u64 (uv (q 3)), .int .i64 lo, .int .i64 hi, .slice (some ⟨kb1, off1, none⟩) 1 c] 29)
  change Calls Try.prog 51 #[.agg #[.int .i64 8, .int .u64 (uv (q 0)), .int .u64 (uv (q 1)), .int .u64 (uv (q 2)), .int .u64 (uv (q 3)), .int .i64 lo, .int .i64 hi, .slice (some ⟨kb1, off1, none⟩) 1 c]] w _
  have B1 := Lib.hid nb
  have T1 : Hid (TB (w.alloc (.cells #[.int .i64 8, .int .u64 (uv (q 0)), .int .u64 (uv (q 1)), .int .u64 (uv (q 2)), .int .u64 (uv (q 3)), .int .i64 lo, .int .i64 hi, .slice (some ⟨kb1, off1, none⟩) 1 c] 29)) w.heap.size ⟨8, q, lo, hi, some ⟨kb1, off1, none⟩, 1, c⟩) := TB.new w ⟨8, q, lo, hi, some ⟨kb1, off1, none⟩, 1, c⟩
  obtain ⟨⟨x0, x1, x2, x3, x4, x5, x6, x7⟩, -⟩ := T1.out.all
  obtain ⟨a0, a1, a2, a3, a4, a5, a6, a7⟩ := kid_cells nb hb1 hc1 (i := 0) (d := dk) rfl
  simp only [Nat.zero_mul, Nat.add_zero] at a0 a1 a2 a3 a4 a5 a6 a7
  have k1 := kr.keeps nb
  have D1 := Lib.hid (ha dk _ k1)
  have D2 := Lib.hid ih
  have K1 := Lib.hid k1
  have HC := Lib.hid hc1
  clear ih ha hk hr hq kr nb hc1 k1
  generalize (spanT k).a = b at *
  generalize (spanT k).l = y at *
  generalize hR : (if b = true then timesF y lo else 0) = rr
  have RR := Lib.hid hR
  clear hR
  have D4 := Lib.hid fun W => product_any lo y W hs hlo
  clear hs hlo
  unfold TD.val at D1
  go_enter Try.func51, Try.ntmps51
  go_wp2_with fail
  refine D1.out.mono ?_
  rintro e w5 ⟨rfl, hb5⟩
  have W5 : Hid (TB w5 w.heap.size ⟨8, q, lo, hi, some ⟨kb1, off1, none⟩, 1, c⟩ ∧ Below w.heap.size w w5) := ⟨T1.out.below hb5, B1.out.trans (hb5.mono B1.out.size)⟩
  have K5 := Lib.hid (K1.out.keeps hb5)
  clear D1 hb5 a0 a1 a2 a3 a4 a5 a6 a7 x0 x1 x2 x3 x4 x5 x6 x7 K1 T1 B1
  cases b
  · clear D2 HC K5 D4
    have e0 : 0 = rr := by have := RR.out; rw [if_neg (by decide)] at this; exact this
    subst e0
    clear RR
    go_wp2
    go_ret
    exact ⟨rfl, W5.out.2⟩
  · have dr : Below w5.heap.size w5 w5.drew := (Below.refl _ _).drew
    have K5d : Hid (Kx w w5.drew w.heap.size ⟨8, q, lo, hi, some ⟨kb1, off1, none⟩, 1, c⟩ k dk) := ⟨W5.out.1.below dr, W5.out.2.trans (dr.mono W5.out.2.size), K5.out.keeps dr⟩
    have KC : Hid (∀ W : World, Below w.heap.size w W → W.cell? ⟨kb1, off1, none⟩ = some (.int .i64 dk.op) ∧ W.cell? ⟨kb1, off1 + 1, none⟩ = some (.int .u64 (uv (dk.q 0))) ∧ W.cell? ⟨kb1, off1 + 2, none⟩ = some (.int .u64 (uv (dk.q 1))) ∧ W.cell? ⟨kb1, off1 + 3, none⟩ = some (.int .u64 (uv (dk.q 2))) ∧ W.cell? ⟨kb1, off1 + 4, none⟩ = some (.int .u64 (uv (dk.q 3))) ∧ W.cell? ⟨kb1, off1 + 5, none⟩ = some (.int .i64 dk.lo) ∧ W.cell? ⟨kb1, off1 + 6, none⟩ = some (.int .i64 dk.hi) ∧ W.cell? ⟨kb1, off1 + 7, none⟩ = some (.slice dk.A dk.n dk.c)) := fun W h => by
      obtain ⟨a0, a1, a2, a3, a4, a5, a6, a7⟩ := kid_cells h hb1 HC.out (i := 0) (d := dk) rfl
      simp only [Nat.zero_mul, Nat.add_zero] at a0 a1 a2 a3 a4 a5 a6 a7
      exact ⟨a0, a1, a2, a3, a4, a5, a6, a7⟩
    have P51 : Hid (∀ W : World, Hid (Kx w W w.heap.size ⟨8, q, lo, hi, some ⟨kb1, off1, none⟩, 1, c⟩ k dk) → Calls Try.prog 51 #[dk.val] W (Tells W (.int .i64 y))) := fun W h => D2.out rfl dk W h.out.2.2
    obtain ⟨a0, a1, a2, a3, a4, a5, a6, a7⟩ := KC.out _ W5.out.2
    obtain ⟨⟨x0, x1, x2, x3, x4, x5, x6, x7⟩, -⟩ := W5.out.1.all
    have kbl : kb1 < w5.heap.size := Nat.lt_of_lt_of_le hb1 W5.out.2.size
    clear D2 HC K5 dr
    unfold TD.val at P51
    have e0 : timesF y lo = rr := by have := RR.out; rw [if_pos rfl] at this; exact this
    subst e0
    clear RR
    go_wp2_with fail
    go_region_held3 (fun w' => w'.cell? ⟨w.heap.size, 0, none⟩ = some (.int .i64 8) ∧ w'.cell? ⟨w.heap.size, 1, none⟩ = some (.int .u64 (uv (q 0))) ∧ w'.cell? ⟨w.heap.size, 2, none⟩ = some (.int .u64 (uv (q 1))) ∧ w'.cell? ⟨w.heap.size, 3, none⟩ = some (.int .u64 (uv (q 2))) ∧ w'.cell? ⟨w.heap.size, 4, none⟩ = some (.int .u64 (uv (q 3))) ∧ w'.cell? ⟨w.heap.size, 5, none⟩ = some (.int .i64 lo) ∧ w'.cell? ⟨w.heap.size, 6, none⟩ = some (.int .i64 hi) ∧ w'.cell? ⟨w.heap.size, 7, none⟩ = some (.slice (some ⟨kb1, off1, none⟩) 1 c) ∧ w'.cell? ⟨kb1, off1, none⟩ = some (.int .i64 dk.op) ∧ w'.cell? ⟨kb1, off1 + 1, none⟩ = some (.int .u64 (uv (dk.q 0))) ∧ w'.cell? ⟨kb1, off1 + 2, none⟩ = some (.int .u64 (uv (dk.q 1))) ∧ w'.cell? ⟨kb1, off1 + 3, none⟩ = some (.int .u64 (uv (dk.q 2))) ∧ w'.cell? ⟨kb1, off1 + 4, none⟩ = some (.int .u64 (uv (dk.q 3))) ∧ w'.cell? ⟨kb1, off1 + 5, none⟩ = some (.int .i64 dk.lo) ∧ w'.cell? ⟨kb1, off1 + 6, none⟩ = some (.int .i64 dk.hi) ∧ w'.cell? ⟨kb1, off1 + 7, none⟩ = some (.slice dk.A dk.n dk.c))
      (first | exact ⟨by assumption, by assumption, by assumption, by assumption, by assumption, by assumption, by assumption, by assumption, by assumption, by assumption, by assumption, by assumption, by assumption, by assumption, by assumption, by assumption⟩ | go_keep)
      (first
        | (go_at_call 51; refine (P51.out _ (by assumption)).mono ?_; rintro e w6 ⟨rfl, hb6⟩; have K6 := step_kx K5d hb6; clear hb6; obtain ⟨⟨_, _, _, _, _, _, _, _⟩, -⟩ := K6.out.1.all; obtain ⟨_, _, _, _, _, _, _, _⟩ := KC.out _ K6.out.2.1)
        | (go_at_call 54; refine (D4.out _).mono ?_; rintro e w7 ⟨rfl, rfl⟩)
        | fail)
    all_goals
      clear D4 P51 KC
      go_wp2
      go_ret
      exact ⟨rfl, K6.out.2.1⟩
set_option maxRecDepth 100000 in
set_option maxHeartbeats 2000000 in
theorem leastref_any : ∀ (t : Tm) (d : TD) (w : World), TR w t d → Rw t → (spanT t).a = true → Calls Try.prog 51 #[d.val] w (Tells w (.int .i64 (spanT t).l)) := by
  intro t
  induction t using Tm.ind with
  | h op f lo hi ks ih =>
  intro d w ht hw hA
  have hf := hw.facts
  have hok := Rt.ok _ hw
  have eo : ∀ k ∈ ks, Eo (spanT k) := fun k hk => spanT_eo k (hok.kid hk)
  have ha : ∀ k ∈ ks, ∀ (d : TD) (w : World), TR w k d → Calls Try.prog 50 #[d.val] w (Tells w (.bool (spanT k).a)) := fun k hk d w h => anyref_any k d w h (hw.kid hk)
  have ih' : ∀ k ∈ ks, (spanT k).a = true → ∀ (d : TD) (w : World), TR w k d → Calls Try.prog 51 #[d.val] w (Tells w (.int .i64 (spanT k).l)) := fun k hk h d w ht => ih k hk d w ht (hw.kid hk) h
  by_cases h6 : op = 6
  · subst h6
    rw [span6_a] at hA
    rw [span6_l _ _ _ _ hA]
    exact least_6 f lo hi ks d w ht (fun k hk => (eo k hk).l) (fun k hk => ih' k hk (allA_mem ks k hA hk))
  by_cases h7 : op = 7
  · subst h7
    rw [span7_a] at hA
    rw [span7_l _ _ _ _ hA eo]
    exact least_7 f lo hi ks d w ht ha ih'
  by_cases h8 : op = 8
  · subst h8
    obtain ⟨k, rfl⟩ : ∃ k, ks = [k] := List.length_eq_one_iff.1 (hf.2.2.2 rfl).1
    have e : (spanT (.mk 8 f lo hi [k])).l = if (spanT k).a then timesF (spanT k).l lo else 0 := by
      rw [spanT]; simp [repX]; unfold repeatF; cases (spanT k).a <;> rfl
    rw [e]
    have h8 := hf.2.2.2 rfl
    exact least_8 f lo hi k d w ht ⟨h8.2.1, h8.2.2.1⟩ (eo k (by simp)).l (ha k (by simp)) (ih' k (by simp))
  have h9 : ¬ op = 9 := by
    intro h; subst h; rw [spanT] at hA; simp at hA
  cases ht with
  | mk _ _ _ _ _ q A c ds hq hl hn hk hr =>
  have B1 := Lib.hid (below_new w (.cells #[.int .i64 op, .int .u64 (uv (q 0)), .int .u64 (uv (q 1)), .int .u64 (uv (q 2)), .int .u64 (uv (q 3)), .int .i64 lo, .int .i64 hi, .slice A ks.length c] 29))
  obtain ⟨⟨x0, x1, x2, x3, x4, x5, x6, x7⟩, -⟩ := (TB.new w ⟨op, q, lo, hi, A, ks.length, c⟩).all
  unfold TD.val
  by_cases h2 : op = 2
  · subst h2
    have R : Hid ((spanT (.mk 2 f lo hi ks)).l = 1) := by
      show _ = _
      rw [spanT] at hA ⊢
      simp at hA ⊢
      cases hz : eqK f noB
      · rfl
      · rw [hz] at hA; simp at hA
    clear ih ih' ha hk hr hw hf hq hok eo hA
    rw [R.out]
    go_enter Try.func51, Try.ntmps51
    go_wp2
    go_ret
    exact ⟨rfl, B1.out⟩
  have q2 : (op == 2) = false := by rw [beq_eq_false_iff_ne]; exact h2
  by_cases h3 : op = 3
  · subst h3
    have R : Hid ((spanT (.mk 3 f lo hi ks)).l = 1) := by show _ = _; rw [spanT]; simp
    clear ih ih' ha hk hr hw hf hq hok eo hA
    rw [R.out]
    go_enter Try.func51, Try.ntmps51
    go_wp2
    go_ret
    exact ⟨rfl, B1.out⟩
  have q3 : (op == 3) = false := by rw [beq_eq_false_iff_ne]; exact h3
  have R : Hid ((spanT (.mk op f lo hi ks)).l = 0) := by show _ = _; rw [spanT, if_pos (by omega)]
  have q6 : (op == 6) = false := by rw [beq_eq_false_iff_ne]; exact h6
  have q7 : (op == 7) = false := by rw [beq_eq_false_iff_ne]; exact h7
  have q8 : (op == 8) = false := by rw [beq_eq_false_iff_ne]; exact h8
  clear ih ih' ha hk hr hw hf hq hok eo hA
  rw [R.out]
  go_enter Try.func51, Try.ntmps51
  go_wp2
  go_ret
  exact ⟨rfl, B1.out⟩
end Go.Proofs.Ytnaecagmcpndhaa
