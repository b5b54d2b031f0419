/- The document's Any. -/
import Derived.Test.YtnaecagmcpndhaaJ12
namespace Go.Proofs.Ytnaecagmcpndhaa
open Go.RowKit
/-- right, but for what matches nothing at all -/
def Rw (t : Tm) : Prop := Rt (woT t)
theorem Rw.facts {op : Int} {f : Nat → Bool} {lo hi : Int} {ks : List Tm} (h : Rw (.mk op f lo hi ks)) : (1 ≤ op ∧ op ≤ 9) ∧ (op < 6 ∨ op = 9 → ks.length = 0) ∧ (op = 6 ∨ op = 7 → 2 ≤ ks.length) ∧ (op = 8 → ks.length = 1 ∧ 0 ≤ lo ∧ lo ≤ 200 ∧ -1 ≤ hi ∧ hi ≤ 200 ∧ (0 ≤ hi → lo ≤ hi)) := by
  unfold Rw at h
  by_cases h9 : op = 9
  · rw [woT, if_pos h9] at h
    have := h.facts
    refine ⟨by omega, fun _ => this.2.1 (by omega), fun h => by omega, fun h => by omega⟩
  · rw [woT, if_neg h9] at h
    have := h.facts
    rw [woL_len] at this
    refine ⟨by omega, fun h => this.2.1 (by omega), this.2.2.1, this.2.2.2⟩
theorem Rw.kid {op : Int} {f : Nat → Bool} {lo hi : Int} {ks : List Tm} (h : Rw (.mk op f lo hi ks)) {k : Tm} (hk : k ∈ ks) : Rw k := by
  have hf := h.facts
  unfold Rw at h
  by_cases h9 : op = 9
  · have h0 : ks = [] := List.eq_nil_of_length_eq_zero (hf.2.1 (.inr h9))
    subst h0; simp at hk
  · rw [woT, if_neg h9] at h
    exact h.kid (woL_mem ks k hk)
def allA : List Tm → Bool
  | [] => true
  | k :: r => (spanT k).a && allA r
def anyA : List Tm → Bool
  | [] => false
  | k :: r => (spanT k).a || anyA r
theorem catX_a : ∀ (l : List Tm) (x : Ex), (catX l x).a = (x.a && allA l)
  | [], x => by rw [catX, allA, Bool.and_true]
  | k :: r, x => by
    rw [catX, allA, catX_a r, ← Bool.and_assoc]
    congr 1
    unfold thenF
    cases x.a <;> cases (spanT k).a <;> rfl
theorem altX_a : ∀ (l : List Tm) (x : Ex), (altX l x).a = (x.a || anyA l)
  | [], x => by rw [altX, anyA, Bool.or_false]
  | k :: r, x => by
    rw [altX, anyA, altX_a r, ← Bool.or_assoc]
    congr 1
    unfold orF
    cases hx : x.a <;> cases hy : (spanT k).a <;> simp [hx, hy]
theorem span6_a (f : Nat → Bool) (lo hi : Int) (ks : List Tm) : (spanT (.mk 6 f lo hi ks)).a = allA ks := by rw [spanT]; simp [catX_a]
theorem span7_a (f : Nat → Bool) (lo hi : Int) (ks : List Tm) : (spanT (.mk 7 f lo hi ks)).a = anyA ks := by rw [spanT]; simp [altX_a]
theorem span8_a (f : Nat → Bool) (lo hi : Int) (k : Tm) : (spanT (.mk 8 f lo hi [k])).a = (decide (lo = 0) || (spanT k).a) := by
  rw [spanT]
  simp [repX]
  unfold repeatF
  cases hx : (spanT k).a <;> simp
theorem span_yes {op : Int} (f : Nat → Bool) (lo hi : Int) (ks : List Tm) (h : op = 1 ∨ op = 3 ∨ op = 4 ∨ op = 5) : (spanT (.mk op f lo hi ks)).a = true := by
  rw [spanT]
  by_cases h1 : op = 1 ∨ op = 4 ∨ op = 5
  · rw [if_pos h1]
  · rw [if_neg h1, if_pos (by omega)]
set_option maxRecDepth 100000 in
set_option maxHeartbeats 2000000 in
theorem any_6 (f : Nat → Bool) (lo hi : Int) (ks : List Tm) (d : TD) (w : World) (ht : TR w (.mk 6 f lo hi ks) d) (ih : ∀ k ∈ ks, ∀ (d : TD) (w : World), TR w k d → Calls Try.prog 50 #[d.val] w (Tells w (.bool (spanT k).a))) : Calls Try.prog 50 #[d.val] w (Tells w (.bool (allA ks))) := by
  cases ht with
  | mk _ _ _ _ _ q A c ds hq hl hn hk hr =>
  obtain ⟨n, hnn⟩ : ∃ n, ks.length = n := ⟨_, rfl⟩
  rw [hnn] at hn ⊢
  have T1 : Hid (TB (w.alloc (.cells #[.int .i64 6, .int .u64 (uv (q 0)), .int .u64 (uv (q 1)), .int .u64 (uv (q 2)), .int .u64 (uv (q 3)), .int .i64 lo, .int .i64 hi, .slice A n c] 29)) w.heap.size ⟨6, q, lo, hi, A, n, c⟩) := TB.new w ⟨6, q, lo, hi, A, n, c⟩
  have B1 : Hid (Below w.heap.size w (w.alloc (.cells #[.int .i64 6, .int .u64 (uv (q 0)), .int .u64 (uv (q 1)), .int .u64 (uv (q 2)), .int .u64 (uv (q 3)), .int .i64 lo, .int .i64 hi, .slice A n c] 29))) := below_new w _
  obtain ⟨⟨x0, x1, x2, x3, x4, x5, x6, x7⟩, -⟩ := T1.out.all
  have IH := Lib.hid ih; have HK := Lib.hid hk; have HR := Lib.hid hr; have HL := Lib.hid hl; have HN := Lib.hid hnn
  clear ih hk hr hl hnn
  unfold TD.val
  go_enter Try.func50, Try.ntmps50
  go_wp2_with fail
  go_loopw [3] (fun v wr => ∃ (i : Nat), i ≤ n ∧ v = .int .i64 (i : Nat) ∧ Hid (allA (ks.drop i) = allA ks) ∧ Hid (TB wr w.heap.size ⟨6, q, lo, hi, A, n, c⟩ ∧ Below w.heap.size w wr)) (fun v _ => n - (intOf v).toNat)
  case atStart => exact ⟨0, Nat.zero_le _, rfl, (by show allA (ks.drop 0) = _; rw [List.drop_zero]), ⟨T1.out, B1.out⟩⟩
  case round =>
    obtain ⟨i, hi1, rfl, hZ, hW⟩ := hrel
    clear T1 B1 x0 x1 x2 x3 x4 x5 x6 x7
    by_cases hlt : i < n
    · have qi : (i : Int) < (n : Int) := by omega
      have hi2 : i < ks.length := by have := HN.out; omega
      have hi4 : i < ds.length := by have h1 := HL.out; omega
      obtain ⟨kb1, off1, rfl, hb1, hc1⟩ := HR.out (by omega)
      obtain ⟨a0, a1, a2, a3, a4, a5, a6, a7⟩ := kid_cells hW.out.2 hb1 hc1 (List.getElem?_eq_getElem hi4)
      obtain ⟨⟨x0, x1, x2, x3, x4, x5, x6, x7⟩, -⟩ := hW.out.1.all
      have k1 := (HK.out i _ _ (List.getElem?_eq_getElem hi2) (List.getElem?_eq_getElem hi4)).keeps hW.out.2
      have zz : Hid (allA ks = ((spanT ks[i]).a && allA (ks.drop (i + 1)))) := by show allA ks = _; rw [← hZ.out, List.drop_eq_getElem_cons hi2, allA]
      have hm := List.getElem_mem hi2
      generalize ks[i] = kt at *
      generalize ds[i] = dt at *
      have D1 := Lib.hid (IH.out kt hm dt _ k1)
      have kbl : kb1 < wr.heap.size := Nat.lt_of_lt_of_le hb1 hW.out.2.size
      have q6 : IntKind.i64.wrap ((i : Int) + 1) = ((i + 1 : Nat) : Int) := by rw [IntWalk.i64_in _ (by omega)]; omega
      clear hc1 k1 hi2 hi4 hb1 hm hZ
      generalize (spanT kt).a = b at *
      unfold TD.val at D1
      go_wp2_with fail
      refine D1.out.mono ?_
      rintro e w5 ⟨rfl, hb5⟩
      have W5 : Hid (TB w5 w.heap.size ⟨6, q, lo, hi, some ⟨kb1, off1, none⟩, n, c⟩ ∧ Below w.heap.size w w5) := ⟨hW.out.1.below hb5, hW.out.2.trans (hb5.mono hW.out.2.size)⟩
      clear D1 hW hb5 a0 a1 a2 a3 a4 a5 a6 a7 kbl x0 x1 x2 x3 x4 x5 x6 x7
      cases b
      · have Z2 : Hid (allA ks = false) := by show _ = _; rw [zz.out]; simp
        clear zz
        go_wp2
        go_ret
        rw [Z2.out]
        exact ⟨rfl, W5.out.2⟩
      · have Z2 : Hid (allA (ks.drop (i + 1)) = allA ks) := by show _ = _; rw [zz.out]; simp
        clear zz
        go_wp2_with fail
        go_roundw
        case rel => exact ⟨i + 1, by omega, by simp, Z2, W5⟩
        case measure => simp [intOf]; omega
    · have qi : ¬ (i : Int) < (n : Int) := by omega
      have e0 : Hid (allA ks = true) := by show _ = _; rw [← hZ.out, List.drop_eq_nil_of_le (by have := HN.out; omega), allA]
      obtain ⟨⟨x0, x1, x2, x3, x4, x5, x6, x7⟩, -⟩ := hW.out.1.all
      clear hZ
      go_wp2
      go_ret
      rw [e0.out]
      exact ⟨rfl, hW.out.2⟩
set_option maxRecDepth 100000 in
set_option maxHeartbeats 2000000 in
theorem any_7 (f : Nat → Bool) (lo hi : Int) (ks : List Tm) (d : TD) (w : World) (ht : TR w (.mk 7 f lo hi ks) d) (ih : ∀ k ∈ ks, ∀ (d : TD) (w : World), TR w k d → Calls Try.prog 50 #[d.val] w (Tells w (.bool (spanT k).a))) : Calls Try.prog 50 #[d.val] w (Tells w (.bool (anyA ks))) := by
  cases ht with
  | mk _ _ _ _ _ q A c ds hq hl hn hk hr =>
  obtain ⟨n, hnn⟩ : ∃ n, ks.length = n := ⟨_, rfl⟩
  rw [hnn] at hn ⊢
  have T1 : Hid (TB (w.alloc (.cells #[.int .i64 7, .int .u64 (uv (q 0)), .int .u64 (uv (q 1)), .int .u64 (uv (q 2)), .int .u64 (uv (q 3)), .int .i64 lo, .int .i64 hi, .slice A n c] 29)) w.heap.size ⟨7, q, lo, hi, A, n, c⟩) := TB.new w ⟨7, q, lo, hi, A, n, c⟩
  have B1 : Hid (Below w.heap.size w (w.alloc (.cells #[.int .i64 7, .int .u64 (uv (q 0)), .int .u64 (uv (q 1)), .int .u64 (uv (q 2)), .int .u64 (uv (q 3)), .int .i64 lo, .int .i64 hi, .slice A n c] 29))) := below_new w _
  obtain ⟨⟨x0, x1, x2, x3, x4, x5, x6, x7⟩, -⟩ := T1.out.all
  have IH := Lib.hid ih; have HK := Lib.hid hk; have HR := Lib.hid hr; have HL := Lib.hid hl; have HN := Lib.hid hnn
  clear ih hk hr hl hnn
  unfold TD.val
  go_enter Try.func50, Try.ntmps50
  go_wp2_with fail
  go_loopw [4] (fun v wr => ∃ (i : Nat), i ≤ n ∧ v = .int .i64 (i : Nat) ∧ Hid (anyA (ks.drop i) = anyA ks) ∧ Hid (TB wr w.heap.size ⟨7, q, lo, hi, A, n, c⟩ ∧ Below w.heap.size w wr)) (fun v _ => n - (intOf v).toNat)
  case atStart => exact ⟨0, Nat.zero_le _, rfl, (by show anyA (ks.drop 0) = _; rw [List.drop_zero]), ⟨T1.out, B1.out⟩⟩
  case round =>
    obtain ⟨i, hi1, rfl, hZ, hW⟩ := hrel
    clear T1 B1 x0 x1 x2 x3 x4 x5 x6 x7
    by_cases hlt : i < n
    · have qi : (i : Int) < (n : Int) := by omega
      have hi2 : i < ks.length := by have := HN.out; omega
      have hi4 : i < ds.length := by have h1 := HL.out; omega
      obtain ⟨kb1, off1, rfl, hb1, hc1⟩ := HR.out (by omega)
      obtain ⟨a0, a1, a2, a3, a4, a5, a6, a7⟩ := kid_cells hW.out.2 hb1 hc1 (List.getElem?_eq_getElem hi4)
      obtain ⟨⟨x0, x1, x2, x3, x4, x5, x6, x7⟩, -⟩ := hW.out.1.all
      have k1 := (HK.out i _ _ (List.getElem?_eq_getElem hi2) (List.getElem?_eq_getElem hi4)).keeps hW.out.2
      have zz : Hid (anyA ks = ((spanT ks[i]).a || anyA (ks.drop (i + 1)))) := by show anyA ks = _; rw [← hZ.out, List.drop_eq_getElem_cons hi2, anyA]
      have hm := List.getElem_mem hi2
      generalize ks[i] = kt at *
      generalize ds[i] = dt at *
      have D1 := Lib.hid (IH.out kt hm dt _ k1)
      have kbl : kb1 < wr.heap.size := Nat.lt_of_lt_of_le hb1 hW.out.2.size
      have q6 : IntKind.i64.wrap ((i : Int) + 1) = ((i + 1 : Nat) : Int) := by rw [IntWalk.i64_in _ (by omega)]; omega
      clear hc1 k1 hi2 hi4 hb1 hm hZ
      generalize (spanT kt).a = b at *
      unfold TD.val at D1
      go_wp2_with fail
      refine D1.out.mono ?_
      rintro e w5 ⟨rfl, hb5⟩
      have W5 : Hid (TB w5 w.heap.size ⟨7, q, lo, hi, some ⟨kb1, off1, none⟩, n, c⟩ ∧ Below w.heap.size w w5) := ⟨hW.out.1.below hb5, hW.out.2.trans (hb5.mono hW.out.2.size)⟩
      clear D1 hW hb5 a0 a1 a2 a3 a4 a5 a6 a7 kbl x0 x1 x2 x3 x4 x5 x6 x7
      cases b
      · have Z2 : Hid (anyA (ks.drop (i + 1)) = anyA ks) := by show _ = _; rw [zz.out]; simp
        clear zz
        go_wp2_with fail
        go_roundw
        case rel => exact ⟨i + 1, by omega, by simp, Z2, W5⟩
        case measure => simp [intOf]; omega
      · have Z2 : Hid (anyA ks = true) := by show _ = _; rw [zz.out]; simp
        clear zz
        go_wp2
        go_ret
        rw [Z2.out]
        exact ⟨rfl, W5.out.2⟩
    · have qi : ¬ (i : Int) < (n : Int) := by omega
      have e0 : Hid (anyA ks = false) := by show _ = _; rw [← hZ.out, List.drop_eq_nil_of_le (by have := HN.out; omega), anyA]
      obtain ⟨⟨x0, x1, x2, x3, x4, x5, x6, x7⟩, -⟩ := hW.out.1.all
      clear hZ
      go_wp2
      go_ret
      rw [e0.out]
      exact ⟨rfl, hW.out.2⟩
set_option maxRecDepth 100000 in
set_option maxHeartbeats 2000000 in
theorem anyref_any : ∀ (t : Tm) (d : TD) (w : World), TR w t d → Rw t → Calls Try.prog 50 #[d.val] w (Tells w (.bool (spanT t).a)) := by
  intro t
  induction t using Tm.ind with
  | h op f lo hi ks ih =>
  intro d w ht hw
  have hf := hw.facts
  have ih' : ∀ k ∈ ks, ∀ (d : TD) (w : World), TR w k d → Calls Try.prog 50 #[d.val] w (Tells w (.bool (spanT k).a)) := fun k hk d w h => ih k hk d w h (hw.kid hk)
  by_cases h6 : op = 6
  · subst h6; rw [span6_a]; exact any_6 f lo hi ks d w ht ih'
  by_cases h7 : op = 7
  · subst h7; rw [span7_a]; exact any_7 f lo hi ks d w ht ih'
  cases ht with
  | mk _ _ _ _ _ q A c ds hq hl hn hk hr =>
  have B1 := Lib.hid (below_new w (.cells #[.int .i64 op, .int .u64 (uv (q 0)), .int .u64 (uv (q 1)), .int .u64 (uv (q 2)), .int .u64 (uv (q 3)), .int .i64 lo, .int .i64 hi, .slice A ks.length c] 29))
  obtain ⟨⟨x0, x1, x2, x3, x4, x5, x6, x7⟩, -⟩ := (TB.new w ⟨op, q, lo, hi, A, ks.length, c⟩).all
  unfold TD.val
  by_cases h9 : op = 9
  · subst h9
    have R : Hid ((spanT (.mk 9 f lo hi ks)).a = false) := by show _ = _; rw [spanT]; simp
    clear ih ih' hk hr hw hf
    rw [R.out]
    go_enter Try.func50, Try.ntmps50
    go_wp2
    go_ret
    exact ⟨rfl, B1.out⟩
  by_cases h2 : op = 2
  · subst h2
    have HE : ∀ W : World, (Op.equalIn 10000 26 (.agg #[.int .u64 (uv (q 0)), .int .u64 (uv (q 1)), .int .u64 (uv (q 2)), .int .u64 (uv (q 3))]) (.agg #[.int .u64 0, .int .u64 0, .int .u64 0, .int .u64 0])).run Try.prog W = .ok (eqK f noB) W := fun W => eqk_is hq isK_zero W
    have R : Hid ((spanT (.mk 2 f lo hi ks)).a = !eqK f noB) := by show _ = _; rw [spanT]; cases eqK f noB <;> simp
    clear ih ih' hk hr hw hf hq
    rw [R.out]
    generalize eqK f noB = z at HE
    cases z
    all_goals
      go_enter Try.func50, Try.ntmps50
      go_wp2
      go_ret
      exact ⟨rfl, B1.out⟩
  by_cases h8 : op = 8
  · subst h8
    obtain ⟨k, rfl⟩ : ∃ k, ks = [k] := List.length_eq_one_iff.1 (hf.2.2.2 rfl).1
    obtain ⟨dk, rfl⟩ : ∃ dk, ds = [dk] := List.length_eq_one_iff.1 (by rw [hl]; rfl)
    obtain ⟨kb1, off1, rfl, hb1, hc1⟩ := hr (by simp)
    rw [span8_a]
    have kr := hk 0 k dk rfl rfl
    have nb := below_new w (.cells #[.int .i64 8, .int .u64 (uv (q 0)), .int .u64 (uv (q 1)), .int .u64 (uv (q 2)), .int .u64 (uv (q 3)), .int .i64 lo, .int .i64 hi, .slice (some ⟨kb1, off1, none⟩) 1 c] 29)
    change Calls Try.prog 50 #[.agg #[.int .i64 8, .int .u64 (uv (q 0)), .int .u64 (uv (q 1)), .int .u64 (uv (q 2)), .int .u64 (uv (q 3)), .int .i64 lo, .int .i64 hi, .slice (some ⟨kb1, off1, none⟩) 1 c]] w _
    clear x0 x1 x2 x3 x4 x5 x6 x7 B1
    have B1 := Lib.hid nb
    obtain ⟨⟨x0, x1, x2, x3, x4, x5, x6, x7⟩, -⟩ := (TB.new w ⟨8, q, lo, hi, some ⟨kb1, off1, none⟩, 1, c⟩).all
    by_cases h0 : lo = 0
    · subst h0
      clear ih ih' hk hr hw hf hq kr nb hc1
      go_enter Try.func50, Try.ntmps50
      go_wp2
      go_ret
      exact ⟨rfl, B1.out⟩
    · have q0 : (lo == 0) = false := by rw [beq_eq_false_iff_ne]; exact h0
      obtain ⟨a0, a1, a2, a3, a4, a5, a6, a7⟩ := kid_cells nb hb1 hc1 (i := 0) (d := dk) rfl
      have D1 := Lib.hid (ih' k (by simp) dk _ (kr.keeps nb))
      have R : Hid ((decide (lo = 0) || (spanT k).a) = (spanT k).a) := by show _ = _; rw [decide_eq_false h0, Bool.false_or]
      rw [R.out]
      generalize (spanT k).a = b at *
      simp only [Nat.zero_mul, Nat.add_zero] at a0 a1 a2 a3 a4 a5 a6 a7
      have BB := Lib.hid nb
      clear ih ih' hk hr hw hf hq kr nb hc1
      unfold TD.val at D1
      go_enter Try.func50, Try.ntmps50
      go_wp2_with fail
      refine D1.out.mono ?_
      rintro e w5 ⟨rfl, hb5⟩
      have B5 := Lib.hid (BB.out.trans (hb5.mono BB.out.size))
      clear D1 hb5 a0 a1 a2 a3 a4 a5 a6 a7
      go_wp2
      go_ret
      exact ⟨rfl, B5.out⟩
  have R : Hid ((spanT (.mk op f lo hi ks)).a = true) := span_yes f lo hi ks (by omega)
  have q6 : (op == 6) = false := by rw [beq_eq_false_iff_ne]; exact h6
  have q7 : (op == 7) = false := by rw [beq_eq_false_iff_ne]; exact h7
  have q8 : (op == 8) = false := by rw [beq_eq_false_iff_ne]; exact h8
  have q9 : (op == 9) = false := by rw [beq_eq_false_iff_ne]; exact h9
  have q2 : (op == 2) = false := by rw [beq_eq_false_iff_ne]; exact h2
  clear ih ih' hk hr hw hf hq
  rw [R.out]
  go_enter Try.func50, Try.ntmps50
  go_wp2
  go_ret
  exact ⟨rfl, B1.out⟩
end Go.Proofs.Ytnaecagmcpndhaa
