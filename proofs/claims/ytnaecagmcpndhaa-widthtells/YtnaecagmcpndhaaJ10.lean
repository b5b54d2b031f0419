/- Right. Right. Right. Right. -/
import Derived.Test.YtnaecagmcpndhaaX4
namespace Go.Proofs.Ytnaecagmcpndhaa
open Go.RowKit
set_option maxRecDepth 100000 in
set_option maxHeartbeats 8000000 in
theorem right_out (op : Int) (h8 : op < 1 ∨ 8 < op) (f : Nat → Bool) (lo hi : Int) (ks : List Tm) (d : TD) (w : World) (ht : TR w (.mk op f lo hi ks) d) (ih : ∀ k ∈ ks, ∀ (d : TD) (w : World), TR w k d → Calls Try.prog 48 #[d.val] w (Rgt w k)) : Calls Try.prog 48 #[d.val] w (Rgt w (.mk op f lo hi ks)) := by
  cases ht with
  | mk _ _ _ _ _ q A c ds hq hl hn hk hr =>
  obtain ⟨n, hnn⟩ : ∃ n, ks.length = n := ⟨_, rfl⟩
  rw [hnn] at hn ⊢
  have HE : ∀ W : World, (Op.equalIn 10000 26 (.agg #[.int .u64 (uv (q 0)), .int .u64 (uv (q 1)), .int .u64 (uv (q 2)), .int .u64 (uv (q 3))]) (.agg #[.int .u64 0, .int .u64 0, .int .u64 0, .int .u64 0])).run Try.prog W = .ok (eqK f noB) W := fun W => eqk_is hq isK_zero W
  have HOK : Hid ((1 ≤ op ∧ op ≤ 8) → (op < 6 → n = 0) → (op = 6 ∨ op = 7 → 2 ≤ n) → (op = 8 → n = 1 ∧ 0 ≤ lo ∧ lo ≤ 200 ∧ -1 ≤ hi ∧ hi ≤ 200 ∧ (0 ≤ hi → lo ≤ hi)) → (∀ k ∈ ks, Rt k) → Rt (.mk op f lo hi ks)) := fun a1 a2 a3 a4 b => .mk _ _ _ _ _ (by rw [hnn]; exact ⟨a1, a2, a3, a4⟩) b
  generalize eqK f noB = z at HE
  have IH := Lib.hid ih; have HK := Lib.hid hk; have HR := Lib.hid hr; have HL := Lib.hid hl; have HN := Lib.hid hnn
  have B1 := Lib.hid (below_new w (.cells #[.int .i64 op, .int .u64 (uv (q 0)), .int .u64 (uv (q 1)), .int .u64 (uv (q 2)), .int .u64 (uv (q 3)), .int .i64 lo, .int .i64 hi, .slice A n c] 29))
  obtain ⟨⟨x0, x1, x2, x3, x4, x5, x6, x7⟩, _⟩ := (TB.new w ⟨op, q, lo, hi, A, n, c⟩).all
  clear ih hk hr hl hnn hq
  unfold TD.val
  clear HOK IH HK HR HL HN HE
  rcases h8 with h | h
  all_goals
    go_enter Try.func48, Try.ntmps48
    go_wp2
    go_ret
    exact ⟨false, rfl, (fun h => by cases h), B1.out⟩
end Go.Proofs.Ytnaecagmcpndhaa
namespace Go.Proofs.Ytnaecagmcpndhaa
open Go.RowKit
set_option maxRecDepth 100000 in
set_option maxHeartbeats 8000000 in
theorem right_1 (op : Int) (h8 : op = 1) (f : Nat → Bool) (lo hi : Int) (ks : List Tm) (d : TD) (w : World) (ht : TR w (.mk op f lo hi ks) d) (ih : ∀ k ∈ ks, ∀ (d : TD) (w : World), TR w k d → Calls Try.prog 48 #[d.val] w (Rgt w k)) : Calls Try.prog 48 #[d.val] w (Rgt w (.mk op f lo hi ks)) := by
  cases ht with
  | mk _ _ _ _ _ q A c ds hq hl hn hk hr =>
  obtain ⟨n, hnn⟩ : ∃ n, ks.length = n := ⟨_, rfl⟩
  rw [hnn] at hn ⊢
  have HE : ∀ W : World, (Op.equalIn 10000 26 (.agg #[.int .u64 (uv (q 0)), .int .u64 (uv (q 1)), .int .u64 (uv (q 2)), .int .u64 (uv (q 3))]) (.agg #[.int .u64 0, .int .u64 0, .int .u64 0, .int .u64 0])).run Try.prog W = .ok (eqK f noB) W := fun W => eqk_is hq isK_zero W
  have HOK : Hid ((1 ≤ op ∧ op ≤ 8) → (op < 6 → n = 0) → (op = 6 ∨ op = 7 → 2 ≤ n) → (op = 8 → n = 1 ∧ 0 ≤ lo ∧ lo ≤ 200 ∧ -1 ≤ hi ∧ hi ≤ 200 ∧ (0 ≤ hi → lo ≤ hi)) → (∀ k ∈ ks, Rt k) → Rt (.mk op f lo hi ks)) := fun a1 a2 a3 a4 b => .mk _ _ _ _ _ (by rw [hnn]; exact ⟨a1, a2, a3, a4⟩) b
  generalize eqK f noB = z at HE
  have IH := Lib.hid ih; have HK := Lib.hid hk; have HR := Lib.hid hr; have HL := Lib.hid hl; have HN := Lib.hid hnn
  have B1 := Lib.hid (below_new w (.cells #[.int .i64 op, .int .u64 (uv (q 0)), .int .u64 (uv (q 1)), .int .u64 (uv (q 2)), .int .u64 (uv (q 3)), .int .i64 lo, .int .i64 hi, .slice A n c] 29))
  obtain ⟨⟨x0, x1, x2, x3, x4, x5, x6, x7⟩, _⟩ := (TB.new w ⟨op, q, lo, hi, A, n, c⟩).all
  clear ih hk hr hl hnn hq
  unfold TD.val
  subst h8
  by_cases qn : (n : Int) = 0
  case neg =>
    cases z
    all_goals
      go_enter Try.func48, Try.ntmps48
      go_wp2
      all_goals (go_ret; exact ⟨false, rfl, (fun h => by cases h), B1.out⟩)
  by_cases hlo : lo = 0
  case neg =>
    cases z
    all_goals
      go_enter Try.func48, Try.ntmps48
      go_wp2
      all_goals (go_ret; exact ⟨false, rfl, (fun h => by cases h), B1.out⟩)
  subst hlo
  by_cases hhi : hi = 0
  case neg =>
    cases z
    all_goals
      go_enter Try.func48, Try.ntmps48
      go_wp2
      all_goals (go_ret; exact ⟨false, rfl, (fun h => by cases h), B1.out⟩)
  subst hhi
  cases z
  all_goals
    go_enter Try.func48, Try.ntmps48
    go_wp2_with fail
    all_goals (try (go_ret; exact ⟨false, rfl, (fun h => by cases h), B1.out⟩))
  all_goals
    have HO2 := Lib.hid (HOK.out ⟨by omega, by omega⟩ (fun _ => by omega) (fun _ => by omega) (fun _ => by omega))
    go_loopw [4] (fun v wr => ∃ (i : Nat), i ≤ n ∧ v = .int .i64 (i : Nat) ∧ Hid (∀ (j : Nat) (k : Tm), j < i → ks[j]? = some k → Rt k) ∧ Hid (wr.cell? ⟨w.heap.size, 7, none⟩ = some (.slice A n c) ∧ w.heap.size < wr.heap.size ∧ Below w.heap.size w wr)) (fun v _ => n - (intOf v).toNat)
    case atStart => exact ⟨0, Nat.zero_le _, rfl, Lib.hid (fun j k hj => by omega), Lib.hid ⟨x7, by simp, B1.out⟩⟩
    case round =>
      obtain ⟨i, hi1, rfl, hZ, hW⟩ := hrel
      clear x0 x1 x2 x3 x4 x5 x6 x7 B1 HE HOK
      by_cases hlt : i < n
      · exact absurd hlt (by omega)
      · have qi : ¬ (i : Int) < (n : Int) := by omega
        have hin : i = n := by omega
        have Z2 := Lib.hid (HO2.out (fun k hk => by
          obtain ⟨j, hj⟩ := List.getElem?_of_mem hk
          obtain ⟨hj2, _⟩ := List.getElem?_eq_some_iff.mp hj
          exact hZ.out j k (by have := HN.out; omega) hj))
        clear hZ HO2
        go_wp2
        go_ret
        exact ⟨true, rfl, fun _ => Z2.out, hW.out.2.2⟩
end Go.Proofs.Ytnaecagmcpndhaa
namespace Go.Proofs.Ytnaecagmcpndhaa
open Go.RowKit
set_option maxRecDepth 100000 in
set_option maxHeartbeats 8000000 in
theorem right_2 (op : Int) (h8 : op = 2) (f : Nat → Bool) (lo hi : Int) (ks : List Tm) (d : TD) (w : World) (ht : TR w (.mk op f lo hi ks) d) (ih : ∀ k ∈ ks, ∀ (d : TD) (w : World), TR w k d → Calls Try.prog 48 #[d.val] w (Rgt w k)) : Calls Try.prog 48 #[d.val] w (Rgt w (.mk op f lo hi ks)) := by
  cases ht with
  | mk _ _ _ _ _ q A c ds hq hl hn hk hr =>
  obtain ⟨n, hnn⟩ : ∃ n, ks.length = n := ⟨_, rfl⟩
  rw [hnn] at hn ⊢
  have HE : ∀ W : World, (Op.equalIn 10000 26 (.agg #[.int .u64 (uv (q 0)), .int .u64 (uv (q 1)), .int .u64 (uv (q 2)), .int .u64 (uv (q 3))]) (.agg #[.int .u64 0, .int .u64 0, .int .u64 0, .int .u64 0])).run Try.prog W = .ok (eqK f noB) W := fun W => eqk_is hq isK_zero W
  have HOK : Hid ((1 ≤ op ∧ op ≤ 8) → (op < 6 → n = 0) → (op = 6 ∨ op = 7 → 2 ≤ n) → (op = 8 → n = 1 ∧ 0 ≤ lo ∧ lo ≤ 200 ∧ -1 ≤ hi ∧ hi ≤ 200 ∧ (0 ≤ hi → lo ≤ hi)) → (∀ k ∈ ks, Rt k) → Rt (.mk op f lo hi ks)) := fun a1 a2 a3 a4 b => .mk _ _ _ _ _ (by rw [hnn]; exact ⟨a1, a2, a3, a4⟩) b
  generalize eqK f noB = z at HE
  have IH := Lib.hid ih; have HK := Lib.hid hk; have HR := Lib.hid hr; have HL := Lib.hid hl; have HN := Lib.hid hnn
  have B1 := Lib.hid (below_new w (.cells #[.int .i64 op, .int .u64 (uv (q 0)), .int .u64 (uv (q 1)), .int .u64 (uv (q 2)), .int .u64 (uv (q 3)), .int .i64 lo, .int .i64 hi, .slice A n c] 29))
  obtain ⟨⟨x0, x1, x2, x3, x4, x5, x6, x7⟩, _⟩ := (TB.new w ⟨op, q, lo, hi, A, n, c⟩).all
  clear ih hk hr hl hnn hq
  unfold TD.val
  subst h8
  by_cases qn : (n : Int) = 0
  case neg =>
    cases z
    all_goals
      go_enter Try.func48, Try.ntmps48
      go_wp2
      all_goals (go_ret; exact ⟨false, rfl, (fun h => by cases h), B1.out⟩)
  by_cases hlo : lo = 0
  case neg =>
    cases z
    all_goals
      go_enter Try.func48, Try.ntmps48
      go_wp2
      all_goals (go_ret; exact ⟨false, rfl, (fun h => by cases h), B1.out⟩)
  subst hlo
  by_cases hhi : hi = 0
  case neg =>
    cases z
    all_goals
      go_enter Try.func48, Try.ntmps48
      go_wp2
      all_goals (go_ret; exact ⟨false, rfl, (fun h => by cases h), B1.out⟩)
  subst hhi
  cases z
  all_goals
    go_enter Try.func48, Try.ntmps48
    go_wp2_with fail
    all_goals (try (go_ret; exact ⟨false, rfl, (fun h => by cases h), B1.out⟩))
  all_goals
    have HO2 := Lib.hid (HOK.out ⟨by omega, by omega⟩ (fun _ => by omega) (fun _ => by omega) (fun _ => by omega))
    go_loopw [4] (fun v wr => ∃ (i : Nat), i ≤ n ∧ v = .int .i64 (i : Nat) ∧ Hid (∀ (j : Nat) (k : Tm), j < i → ks[j]? = some k → Rt k) ∧ Hid (wr.cell? ⟨w.heap.size, 7, none⟩ = some (.slice A n c) ∧ w.heap.size < wr.heap.size ∧ Below w.heap.size w wr)) (fun v _ => n - (intOf v).toNat)
    case atStart => exact ⟨0, Nat.zero_le _, rfl, Lib.hid (fun j k hj => by omega), Lib.hid ⟨x7, by simp, B1.out⟩⟩
    case round =>
      obtain ⟨i, hi1, rfl, hZ, hW⟩ := hrel
      clear x0 x1 x2 x3 x4 x5 x6 x7 B1 HE HOK
      by_cases hlt : i < n
      · exact absurd hlt (by omega)
      · have qi : ¬ (i : Int) < (n : Int) := by omega
        have hin : i = n := by omega
        have Z2 := Lib.hid (HO2.out (fun k hk => by
          obtain ⟨j, hj⟩ := List.getElem?_of_mem hk
          obtain ⟨hj2, _⟩ := List.getElem?_eq_some_iff.mp hj
          exact hZ.out j k (by have := HN.out; omega) hj))
        clear hZ HO2
        go_wp2
        go_ret
        exact ⟨true, rfl, fun _ => Z2.out, hW.out.2.2⟩
end Go.Proofs.Ytnaecagmcpndhaa
namespace Go.Proofs.Ytnaecagmcpndhaa
open Go.RowKit
set_option maxRecDepth 100000 in
set_option maxHeartbeats 8000000 in
theorem right_3 (op : Int) (h8 : op = 3) (f : Nat → Bool) (lo hi : Int) (ks : List Tm) (d : TD) (w : World) (ht : TR w (.mk op f lo hi ks) d) (ih : ∀ k ∈ ks, ∀ (d : TD) (w : World), TR w k d → Calls Try.prog 48 #[d.val] w (Rgt w k)) : Calls Try.prog 48 #[d.val] w (Rgt w (.mk op f lo hi ks)) := by
  cases ht with
  | mk _ _ _ _ _ q A c ds hq hl hn hk hr =>
  obtain ⟨n, hnn⟩ : ∃ n, ks.length = n := ⟨_, rfl⟩
  rw [hnn] at hn ⊢
  have HE : ∀ W : World, (Op.equalIn 10000 26 (.agg #[.int .u64 (uv (q 0)), .int .u64 (uv (q 1)), .int .u64 (uv (q 2)), .int .u64 (uv (q 3))]) (.agg #[.int .u64 0, .int .u64 0, .int .u64 0, .int .u64 0])).run Try.prog W = .ok (eqK f noB) W := fun W => eqk_is hq isK_zero W
  have HOK : Hid ((1 ≤ op ∧ op ≤ 8) → (op < 6 → n = 0) → (op = 6 ∨ op = 7 → 2 ≤ n) → (op = 8 → n = 1 ∧ 0 ≤ lo ∧ lo ≤ 200 ∧ -1 ≤ hi ∧ hi ≤ 200 ∧ (0 ≤ hi → lo ≤ hi)) → (∀ k ∈ ks, Rt k) → Rt (.mk op f lo hi ks)) := fun a1 a2 a3 a4 b => .mk _ _ _ _ _ (by rw [hnn]; exact ⟨a1, a2, a3, a4⟩) b
  generalize eqK f noB = z at HE
  have IH := Lib.hid ih; have HK := Lib.hid hk; have HR := Lib.hid hr; have HL := Lib.hid hl; have HN := Lib.hid hnn
  have B1 := Lib.hid (below_new w (.cells #[.int .i64 op, .int .u64 (uv (q 0)), .int .u64 (uv (q 1)), .int .u64 (uv (q 2)), .int .u64 (uv (q 3)), .int .i64 lo, .int .i64 hi, .slice A n c] 29))
  obtain ⟨⟨x0, x1, x2, x3, x4, x5, x6, x7⟩, _⟩ := (TB.new w ⟨op, q, lo, hi, A, n, c⟩).all
  clear ih hk hr hl hnn hq
  unfold TD.val
  subst h8
  by_cases qn : (n : Int) = 0
  case neg =>
    cases z
    all_goals
      go_enter Try.func48, Try.ntmps48
      go_wp2
      all_goals (go_ret; exact ⟨false, rfl, (fun h => by cases h), B1.out⟩)
  by_cases hlo : lo = 0
  case neg =>
    cases z
    all_goals
      go_enter Try.func48, Try.ntmps48
      go_wp2
      all_goals (go_ret; exact ⟨false, rfl, (fun h => by cases h), B1.out⟩)
  subst hlo
  by_cases hhi : hi = 0
  case neg =>
    cases z
    all_goals
      go_enter Try.func48, Try.ntmps48
      go_wp2
      all_goals (go_ret; exact ⟨false, rfl, (fun h => by cases h), B1.out⟩)
  subst hhi
  cases z
  all_goals
    go_enter Try.func48, Try.ntmps48
    go_wp2_with fail
    all_goals (try (go_ret; exact ⟨false, rfl, (fun h => by cases h), B1.out⟩))
  all_goals
    have HO2 := Lib.hid (HOK.out ⟨by omega, by omega⟩ (fun _ => by omega) (fun _ => by omega) (fun _ => by omega))
    go_loopw [4] (fun v wr => ∃ (i : Nat), i ≤ n ∧ v = .int .i64 (i : Nat) ∧ Hid (∀ (j : Nat) (k : Tm), j < i → ks[j]? = some k → Rt k) ∧ Hid (wr.cell? ⟨w.heap.size, 7, none⟩ = some (.slice A n c) ∧ w.heap.size < wr.heap.size ∧ Below w.heap.size w wr)) (fun v _ => n - (intOf v).toNat)
    case atStart => exact ⟨0, Nat.zero_le _, rfl, Lib.hid (fun j k hj => by omega), Lib.hid ⟨x7, by simp, B1.out⟩⟩
    case round =>
      obtain ⟨i, hi1, rfl, hZ, hW⟩ := hrel
      clear x0 x1 x2 x3 x4 x5 x6 x7 B1 HE HOK
      by_cases hlt : i < n
      · exact absurd hlt (by omega)
      · have qi : ¬ (i : Int) < (n : Int) := by omega
        have hin : i = n := by omega
        have Z2 := Lib.hid (HO2.out (fun k hk => by
          obtain ⟨j, hj⟩ := List.getElem?_of_mem hk
          obtain ⟨hj2, _⟩ := List.getElem?_eq_some_iff.mp hj
          exact hZ.out j k (by have := HN.out; omega) hj))
        clear hZ HO2
        go_wp2
        go_ret
        exact ⟨true, rfl, fun _ => Z2.out, hW.out.2.2⟩
end Go.Proofs.Ytnaecagmcpndhaa
