/- Span: repeats, and what is no term. -/
import Derived.Test.YtnaecagmcpndhaaJ15
import Derived.Deep.RegionHeld3
namespace Go.Proofs.Ytnaecagmcpndhaa.A
open Go.RowKit
set_option maxRecDepth 100000 in
set_option maxHeartbeats 4000000 in
theorem span_other (op : Int) (f : Nat → Bool) (lo hi : Int) (ks : List Tm) (d : TD) (p : Nat) (w : World) (ht : TR w (.mk op f lo hi ks) d) (hop : ¬ (op = 1 ∨ op = 4 ∨ op = 5 ∨ op = 3 ∨ op = 2 ∨ op = 6 ∨ op = 7)) (h8 : op = 8 → ks.length ≠ 1) : Calls Try.prog 36 #[d.val, .pointer (some ⟨p, 0, none⟩)] w (Tells w (spanT (.mk op f lo hi ks)).val) := by
  cases ht with
  | mk _ _ _ _ _ q A c ds hq hl hn hk hr =>
  obtain ⟨n, hnn⟩ : ∃ n, ks.length = n := ⟨_, rfl⟩
  have X1 : Hid (EB ((w.alloc (.cells #[.int .i64 op, .int .u64 (uv (q 0)), .int .u64 (uv (q 1)), .int .u64 (uv (q 2)), .int .u64 (uv (q 3)), .int .i64 lo, .int .i64 hi, .slice A n c] 29)).alloc (.cells #[.int .i64 0, .int .i64 0, .bool false] 62)) (w.heap.size + 1) ⟨0, 0, false⟩) := by
    have h := EB.new (w.alloc (.cells #[.int .i64 op, .int .u64 (uv (q 0)), .int .u64 (uv (q 1)), .int .u64 (uv (q 2)), .int .u64 (uv (q 3)), .int .i64 lo, .int .i64 hi, .slice A n c] 29)) ⟨0, 0, false⟩
    rw [World.size_alloc] at h
    exact h
  have B1 : Hid (Below w.heap.size w ((w.alloc (.cells #[.int .i64 op, .int .u64 (uv (q 0)), .int .u64 (uv (q 1)), .int .u64 (uv (q 2)), .int .u64 (uv (q 3)), .int .i64 lo, .int .i64 hi, .slice A n c] 29)).alloc (.cells #[.int .i64 0, .int .i64 0, .bool false] 62))) := below2 w _ _
  have q1 : (op == 1) = false := by rw [beq_eq_false_iff_ne]; intro e; exact hop (.inl e)
  have q4 : (op == 4) = false := by rw [beq_eq_false_iff_ne]; intro e; exact hop (.inr (.inl e))
  have q5 : (op == 5) = false := by rw [beq_eq_false_iff_ne]; intro e; exact hop (.inr (.inr (.inl e)))
  have q3 : (op == 3) = false := by rw [beq_eq_false_iff_ne]; intro e; exact hop (.inr (.inr (.inr (.inl e))))
  have q2 : (op == 2) = false := by rw [beq_eq_false_iff_ne]; intro e; exact hop (.inr (.inr (.inr (.inr (.inl e)))))
  have q6 : (op == 6) = false := by rw [beq_eq_false_iff_ne]; intro e; exact hop (.inr (.inr (.inr (.inr (.inr (.inl e))))))
  have q7 : (op == 7) = false := by rw [beq_eq_false_iff_ne]; intro e; exact hop (.inr (.inr (.inr (.inr (.inr (.inr e))))))
  have rx : repX ks lo hi = ⟨0, 0, false⟩ ∨ op ≠ 8 := by
    by_cases e : op = 8
    · left
      have hl1 := h8 e
      match ks, hl1 with
      | [], _ => rw [repX]; intro k e; cases e
      | [k], h => exact absurd rfl h
      | _ :: _ :: _, _ => rw [repX]; intro k e; cases e
    · exact .inr e
  have R : Hid (spanT (.mk op f lo hi ks) = ⟨0, 0, false⟩) := by
    show spanT _ = _
    rw [beq_eq_false_iff_ne] at q1 q2 q3 q4 q5 q6 q7
    rw [spanT, if_neg (by rintro (e | e | e); exact q1 e; exact q4 e; exact q5 e), if_neg q3, if_neg q2, if_neg q6, if_neg q7]
    split
    · rename_i e
      rcases rx with h | h
      · exact h
      · exact absurd e h
    · rfl
  rw [R.out]
  rw [hnn] at h8 ⊢
  unfold TD.val
  clear hop rx hk hr
  by_cases e8 : op = 8
  · subst e8
    have qn : ((n : Int) == 1) = false := by rw [beq_eq_false_iff_ne]; have := h8 rfl; omega
    clear h8 q1 q2 q3 q4 q5 q6 q7
    go_enter Try.func36, Try.ntmps36
    go_wp2
    exact bodyPost_ret (v := Ex.val ⟨0, 0, false⟩) (res36 _ _ ⟨0, 0, false⟩ _ X1.out rfl) rfl ⟨rfl, B1.out⟩
  · have q8 : (op == 8) = false := by rw [beq_eq_false_iff_ne]; exact e8
    clear h8 e8
    go_enter Try.func36, Try.ntmps36
    go_wp2
    exact bodyPost_ret (v := Ex.val ⟨0, 0, false⟩) (res36 _ _ ⟨0, 0, false⟩ _ X1.out rfl) rfl ⟨rfl, B1.out⟩
end Go.Proofs.Ytnaecagmcpndhaa.A
