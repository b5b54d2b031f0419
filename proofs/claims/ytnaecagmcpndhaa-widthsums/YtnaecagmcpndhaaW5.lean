/- Span: its closure's walk. -/
import Derived.Test.YtnaecagmcpndhaaW4
namespace Go.Proofs.Ytnaecagmcpndhaa
open Go.RowKit
/-- the three cells of an extent's block written -/
def set3 (W : World) (k : Nat) (x : Ex) : World := ((W.setCell ⟨k, 0, none⟩ (.int .i64 x.l)).setCell ⟨k, 1, none⟩ (.int .i64 x.m)).setCell ⟨k, 2, none⟩ (.bool x.a)
theorem EB.set3 {W : World} {k : Nat} {x0 : Ex} (h : EB W k x0) (x : Ex) : EB (set3 W k x) k x := by
  unfold EB at h ⊢
  simp [Go.Proofs.Ytnaecagmcpndhaa.set3, World.setCell, Array.getElem?_modify, h]
theorem set3_below {w W : World} {k : Nat} (hb : Below w.heap.size w W) (hk : w.heap.size ≤ k) (x : Ex) : Below w.heap.size w (set3 W k x) := ((hb.setCell hk _).setCell hk _).setCell hk _
theorem res36 (W : World) (k : Nat) (x : Ex) (T : Array Value) (h : EB W k x) (hT : T[3]? = some (.pointer (some ⟨k, 0, none⟩))) : (results Try.f36 T).run Try.prog W = .ok x.val W := by
  obtain ⟨⟨x0, x1, x2⟩, _⟩ := h.all
  simp [results, Try.results36, go_sem, Ex.val, hT, x0, x1, x2]
theorem end36 {w W : World} {x0 x : Ex} (h : EB W (w.heap.size + 1) x0) (hb : Below w.heap.size w W) (T : Array Value) (hT : T[3]? = some (.pointer (some ⟨w.heap.size + 1, 0, none⟩))) :
    bodyPost Try.prog Try.f36 (Tells w x.val) .ret { tmps := T, defers := [] } (((W.setCell ⟨w.heap.size + 1, 0, none⟩ (.int .i64 x.l)).setCell ⟨w.heap.size + 1, 1, none⟩ (.int .i64 x.m)).setCell ⟨w.heap.size + 1, 2, none⟩ (.bool x.a)) :=
  bodyPost_ret (v := x.val) (res36 _ _ x _ (h.set3 x) hT) rfl ⟨rfl, set3_below hb (Nat.le_succ _) x⟩
set_option maxRecDepth 100000 in
set_option maxHeartbeats 4000000 in
theorem span_leaf (op : Int) (f : Nat → Bool) (lo hi : Int) (ks : List Tm) (d : TD) (p : Nat) (w : World) (ht : TR w (.mk op f lo hi ks) d) (hop : op = 1 ∨ op = 4 ∨ op = 5 ∨ op = 3 ∨ op = 2) : Calls Try.prog 36 #[d.val, .pointer (some ⟨p, 0, none⟩)] w (Tells w (spanT (.mk op f lo hi ks)).val) := by
  cases ht with
  | mk _ _ _ _ _ q A c ds hq hl hn hk hr =>
  obtain ⟨n, hnn⟩ : ∃ n, ks.length = n := ⟨_, rfl⟩
  rw [hnn] at hn ⊢
  have NO := Lib.hid nothing_any; have ON := Lib.hid one_any
  have T1 : Hid (TB ((w.alloc (.cells #[.int .i64 op, .int .u64 (uv (q 0)), .int .u64 (uv (q 1)), .int .u64 (uv (q 2)), .int .u64 (uv (q 3)), .int .i64 lo, .int .i64 hi, .slice A n c] 29)).alloc (.cells #[.int .i64 0, .int .i64 0, .bool false] 62)) w.heap.size ⟨op, q, lo, hi, A, n, c⟩) := (TB.new w ⟨op, q, lo, hi, A, n, c⟩).alloc _
  have B1 : Hid (Below w.heap.size w ((w.alloc (.cells #[.int .i64 op, .int .u64 (uv (q 0)), .int .u64 (uv (q 1)), .int .u64 (uv (q 2)), .int .u64 (uv (q 3)), .int .i64 lo, .int .i64 hi, .slice A n c] 29)).alloc (.cells #[.int .i64 0, .int .i64 0, .bool false] 62))) := below2 w _ _
  have X1 : Hid (EB ((w.alloc (.cells #[.int .i64 op, .int .u64 (uv (q 0)), .int .u64 (uv (q 1)), .int .u64 (uv (q 2)), .int .u64 (uv (q 3)), .int .i64 lo, .int .i64 hi, .slice A n c] 29)).alloc (.cells #[.int .i64 0, .int .i64 0, .bool false] 62)) (w.heap.size + 1) ⟨0, 0, false⟩) := by
    have h := EB.new (w.alloc (.cells #[.int .i64 op, .int .u64 (uv (q 0)), .int .u64 (uv (q 1)), .int .u64 (uv (q 2)), .int .u64 (uv (q 3)), .int .i64 lo, .int .i64 hi, .slice A n c] 29)) ⟨0, 0, false⟩
    rw [World.size_alloc] at h
    exact h
  unfold TD.val
  by_cases h1 : op = 1
  · subst h1
    have R : Hid (spanT (.mk 1 f lo hi ks) = ⟨0, 0, true⟩) := by show spanT _ = _; rw [spanT]; simp
    clear hk hr hop
    rw [R.out]
    go_enter Try.func36, Try.ntmps36
    go_wp2_with fail
    refine (NO.out _).mono ?_
    rintro e w5 ⟨rfl, hb5⟩
    have X5 := Lib.hid (X1.out.below hb5); have B5 := Lib.hid (B1.out.trans (hb5.mono B1.out.size))
    obtain ⟨⟨e0, e1, e2⟩, g0, g1, g2⟩ := X5.out.all
    clear NO ON T1 B1 X1 hb5
    unfold Ex.val
    go_wp2
    exact end36 X5.out B5.out _ rfl
  have q1 : (op == 1) = false := by rw [beq_eq_false_iff_ne]; exact h1
  by_cases h4 : op = 4
  · subst h4
    have R : Hid (spanT (.mk 4 f lo hi ks) = ⟨0, 0, true⟩) := by show spanT _ = _; rw [spanT]; simp
    clear hk hr hop
    rw [R.out]
    go_enter Try.func36, Try.ntmps36
    go_wp2_with fail
    refine (NO.out _).mono ?_
    rintro e w5 ⟨rfl, hb5⟩
    have X5 := Lib.hid (X1.out.below hb5); have B5 := Lib.hid (B1.out.trans (hb5.mono B1.out.size))
    obtain ⟨⟨e0, e1, e2⟩, g0, g1, g2⟩ := X5.out.all
    clear NO ON T1 B1 X1 hb5
    unfold Ex.val
    go_wp2
    exact end36 X5.out B5.out _ rfl
  have q4 : (op == 4) = false := by rw [beq_eq_false_iff_ne]; exact h4
  by_cases h5 : op = 5
  · subst h5
    have R : Hid (spanT (.mk 5 f lo hi ks) = ⟨0, 0, true⟩) := by show spanT _ = _; rw [spanT]; simp
    clear hk hr hop
    rw [R.out]
    go_enter Try.func36, Try.ntmps36
    go_wp2_with fail
    refine (NO.out _).mono ?_
    rintro e w5 ⟨rfl, hb5⟩
    have X5 := Lib.hid (X1.out.below hb5); have B5 := Lib.hid (B1.out.trans (hb5.mono B1.out.size))
    obtain ⟨⟨e0, e1, e2⟩, g0, g1, g2⟩ := X5.out.all
    clear NO ON T1 B1 X1 hb5
    unfold Ex.val
    go_wp2
    exact end36 X5.out B5.out _ rfl
  have q5 : (op == 5) = false := by rw [beq_eq_false_iff_ne]; exact h5
  by_cases h3 : op = 3
  · subst h3
    have R : Hid (spanT (.mk 3 f lo hi ks) = ⟨1, 1, true⟩) := by show spanT _ = _; rw [spanT]; simp
    clear hk hr hop
    rw [R.out]
    go_enter Try.func36, Try.ntmps36
    go_wp2_with fail
    refine (ON.out _).mono ?_
    rintro e w5 ⟨rfl, hb5⟩
    have X5 := Lib.hid (X1.out.below hb5); have B5 := Lib.hid (B1.out.trans (hb5.mono B1.out.size))
    obtain ⟨⟨e0, e1, e2⟩, g0, g1, g2⟩ := X5.out.all
    clear NO ON T1 B1 X1 hb5
    unfold Ex.val
    go_wp2
    exact end36 X5.out B5.out _ rfl
  have q3 : (op == 3) = false := by rw [beq_eq_false_iff_ne]; exact h3
  by_cases h2 : op = 2
  · subst h2
    have hE : ∀ W : World, (Op.equalIn 10000 26 (.agg #[.int .u64 (uv (q 0)), .int .u64 (uv (q 1)), .int .u64 (uv (q 2)), .int .u64 (uv (q 3))]) (.agg #[.int .u64 0, .int .u64 0, .int .u64 0, .int .u64 0])).run Try.prog W = .ok (eqK f noB) W := fun W => eqk_is hq isK_zero W
    cases hz : eqK f noB with
    | true =>
      have R : Hid (spanT (.mk 2 f lo hi ks) = ⟨0, 0, false⟩) := by show spanT _ = _; rw [spanT]; simp [hz]
      rw [hz] at hE
      obtain ⟨⟨e0, e1, e2⟩, g0, g1, g2⟩ := X1.out.all
      clear hk hr hop NO ON
      rw [R.out]
      go_enter Try.func36, Try.ntmps36
      go_wp2
      exact bodyPost_ret (v := Ex.val ⟨0, 0, false⟩) (res36 _ _ ⟨0, 0, false⟩ _ X1.out rfl) rfl ⟨rfl, B1.out⟩
    | false =>
      have R : Hid (spanT (.mk 2 f lo hi ks) = ⟨1, 1, true⟩) := by show spanT _ = _; rw [spanT]; simp [hz]
      rw [hz] at hE
      clear hk hr hop
      rw [R.out]
      go_enter Try.func36, Try.ntmps36
      go_wp2_with fail
      refine (ON.out _).mono ?_
      rintro e w5 ⟨rfl, hb5⟩
      have X5 := Lib.hid (X1.out.below hb5); have B5 := Lib.hid (B1.out.trans (hb5.mono B1.out.size))
      obtain ⟨⟨e0, e1, e2⟩, g0, g1, g2⟩ := X5.out.all
      clear NO ON T1 B1 X1 hb5
      unfold Ex.val
      go_wp2
      exact end36 X5.out B5.out _ rfl
  have q2 : (op == 2) = false := by rw [beq_eq_false_iff_ne]; exact h2
  exact absurd hop (by rintro (e | e | e | e | e); exact h1 e; exact h4 e; exact h5 e; exact h3 e; exact h2 e)
end Go.Proofs.Ytnaecagmcpndhaa
