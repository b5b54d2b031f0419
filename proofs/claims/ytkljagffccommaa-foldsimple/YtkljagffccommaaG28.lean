/- Right. Right, by the document. Right, by the document. Right, by the document. Right, by the document. Right, by the document. Right, by the document. Right, by the document, at every term. Right. Right. Right. Right. Right. -/
import Derived.Test.YtkljagffccommaaG27
namespace Go.Proofs.Ytkljagffccommaa
open Go.RowKit
set_option maxRecDepth 100000 in
set_option maxHeartbeats 8000000 in
theorem right_7 (op : Int) (h8 : op = 7) (f : Nat → Bool) (lo hi : Int) (ks : List Tm) (d : TD) (w : World) (ht : TR w (.mk op f lo hi ks) d) (ih : ∀ k ∈ ks, ∀ (d : TD) (w : World), TR w k d → Calls Try.prog 36 #[d.val] w (Rgt w k)) : Calls Try.prog 36 #[d.val] w (Rgt w (.mk op f lo hi ks)) := by
  cases ht with
  | mk _ _ _ _ _ q A c ds hq hl hn hk hr =>
  obtain ⟨n, hnn⟩ : ∃ n, ks.length = n := ⟨_, rfl⟩
  rw [hnn] at hn ⊢
  have HE : ∀ W : World, (Op.equalIn 10000 26 (.agg #[.int .u64 (uv (q 0)), .int .u64 (uv (q 1)), .int .u64 (uv (q 2)), .int .u64 (uv (q 3))]) (.agg #[.int .u64 0, .int .u64 0, .int .u64 0, .int .u64 0])).run Try.prog W = .ok (eqK f noB) W := fun W => eqk_is hq isK_zero W
  have HOK : Hid ((1 ≤ op ∧ op ≤ 8) → (op < 6 → n = 0) → (op = 6 ∨ op = 7 → 2 ≤ n) → (op = 8 → n = 1 ∧ 0 ≤ lo ∧ lo ≤ 200 ∧ -1 ≤ hi ∧ hi ≤ 200 ∧ (0 ≤ hi → lo ≤ hi)) → (∀ k ∈ ks, Rt k) → Rt (.mk op f lo hi ks)) := fun a1 a2 a3 a4 b => .mk _ _ _ _ _ (by rw [hnn]; exact ⟨a1, a2, a3, a4⟩) b
  generalize eqK f noB = z at HE
  have IH := Lib.hid ih; have HK := Lib.hid hk; have HR := Lib.hid hr; have HL := Lib.hid hl; have HN := Lib.hid hnn
  have B1 := Lib.hid (below_new w (.cells #[.int .i64 op, .int .u64 (uv (q 0)), .int .u64 (uv (q 1)), .int .u64 (uv (q 2)), .int .u64 (uv (q 3)), .int .i64 lo, .int .i64 hi, .slice A n c] 29))
  obtain ⟨⟨x0, x1, x2, x3, x4, x5, x6, x7⟩, _⟩ := (TB.new w ⟨op, q, lo, hi, A, n, c⟩).all
  clear ih hk hr hl hnn hq
  unfold TD.val
  subst h8
  by_cases qn : ¬ (n : Int) < 2
  case neg =>
    cases z
    all_goals
      go_enter Try.func36, Try.ntmps36
      go_wp2
      all_goals (go_ret; exact ⟨false, rfl, (fun h => by cases h), B1.out⟩)
  by_cases hlo : lo = 0
  case neg =>
    cases z
    all_goals
      go_enter Try.func36, Try.ntmps36
      go_wp2
      all_goals (go_ret; exact ⟨false, rfl, (fun h => by cases h), B1.out⟩)
  subst hlo
  by_cases hhi : hi = 0
  case neg =>
    cases z
    all_goals
      go_enter Try.func36, Try.ntmps36
      go_wp2
      all_goals (go_ret; exact ⟨false, rfl, (fun h => by cases h), B1.out⟩)
  subst hhi
  cases z
  all_goals
    go_enter Try.func36, Try.ntmps36
    go_wp2_with fail
    all_goals (try (go_ret; exact ⟨false, rfl, (fun h => by cases h), B1.out⟩))
  all_goals
    have HO2 := Lib.hid (HOK.out ⟨by omega, by omega⟩ (fun _ => by omega) (fun _ => by omega) (fun _ => by omega))
    go_loopw [4] (fun v wr => ∃ (i : Nat), i ≤ n ∧ v = .int .i64 (i : Nat) ∧ Hid (∀ (j : Nat) (k : Tm), j < i → ks[j]? = some k → Rt k) ∧ Hid (wr.cell? ⟨w.heap.size, 7, none⟩ = some (.slice A n c) ∧ w.heap.size < wr.heap.size ∧ Below w.heap.size w wr)) (fun v _ => n - (intOf v).toNat)
    case atStart => exact ⟨0, Nat.zero_le _, rfl, Lib.hid (fun j k hj => by omega), Lib.hid ⟨x7, by simp, B1.out⟩⟩
    case round =>
      obtain ⟨i, hi1, rfl, hZ, hW⟩ := hrel
      clear x0 x1 x2 x3 x4 x5 x6 x7 B1 HE HOK
      by_cases hlt : i < n
      · have qi : (i : Int) < (n : Int) := by omega
        have hi2 : i < ks.length := by have := HN.out; omega
        have hi4 : i < ds.length := by have h1 := HL.out; omega
        obtain ⟨kb1, off1, rfl, hb1, hc1⟩ := HR.out (by omega)
        obtain ⟨a0, a1, a2, a3, a4, a5, a6, a7⟩ := kid_cells hW.out.2.2 hb1 hc1 (List.getElem?_eq_getElem hi4)
        have k1 := (HK.out i _ _ (List.getElem?_eq_getElem hi2) (List.getElem?_eq_getElem hi4)).keeps hW.out.2.2
        have tk : Hid (∀ k, ks[i]? = some k → k = ks[i]) := Lib.hid (fun k hk => by rw [List.getElem?_eq_getElem hi2] at hk; cases hk; rfl)
        have hm := List.getElem_mem hi2
        generalize ks[i] = kt at *
        generalize ds[i] = dt at *
        have D1 := Lib.hid (IH.out kt hm dt _ k1)
        have kbl : kb1 < wr.heap.size := Nat.lt_of_lt_of_le hb1 hW.out.2.2.size
        have q6 : IntKind.i64.wrap ((i : Int) + 1) = ((i + 1 : Nat) : Int) := by rw [IntWalk.i64_in _ (by omega)]; omega
        have c7 := hW.out.1
        have cl := hW.out.2.1
        clear hc1 k1 hi2 hi4 hb1 hm
        unfold TD.val at D1
        go_wp2_with fail
        refine D1.out.mono ?_
        rintro e w5 ⟨b, rfl, hokb, hb5⟩
        have OB := Lib.hid hokb
        have W5 : Hid (w5.cell? ⟨w.heap.size, 7, none⟩ = some (.slice (some ⟨kb1, off1, none⟩) n c) ∧ w.heap.size < w5.heap.size ∧ Below w.heap.size w w5) := ⟨(hb5.cell (p := ⟨w.heap.size, 7, none⟩) cl).trans c7, Nat.lt_of_lt_of_le cl hb5.size, hW.out.2.2.trans (hb5.mono hW.out.2.2.size)⟩
        clear D1 hW hb5 hokb a0 a1 a2 a3 a4 a5 a6 a7 kbl c7 cl
        cases b
        · go_wp2
          go_ret
          exact ⟨false, rfl, (fun h => by cases h), W5.out.2.2⟩
        · have Z2 : Hid (∀ (j : Nat) (k : Tm), j < i + 1 → ks[j]? = some k → Rt k) := Lib.hid (fun j k hj hk => by
            rcases Nat.lt_or_ge j i with h | h
            · exact hZ.out j k h hk
            · have : j = i := by omega
              subst this
              rw [tk.out k hk]
              exact OB.out rfl)
          clear hZ tk OB
          go_wp2_with fail
          go_roundw
          case rel => exact ⟨i + 1, by omega, by simp, Z2, W5⟩
          case measure => simp [intOf]; omega
      · have qi : ¬ (i : Int) < (n : Int) := by omega
        have hin : i = n := by omega
        have Z2 := Lib.hid (HO2.out (fun k hk => by
          obtain ⟨j, hj⟩ := List.getElem?_of_mem hk
          obtain ⟨hj2, _⟩ := List.getElem?_eq_some_iff.mp hj
          exact hZ.out j k (by have := HN.out; omega) hj))
        clear hZ HO2
        go_wp2
        go_ret
        exact ⟨true, rfl, fun _ => Z2.out, hW.out.2.2⟩
end Go.Proofs.Ytkljagffccommaa
namespace Go.Proofs.Ytkljagffccommaa
open Go.RowKit
set_option maxRecDepth 100000 in
set_option maxHeartbeats 8000000 in
theorem rightR_3 (op : Int) (h8 : op = 3) (f : Nat → Bool) (lo hi : Int) (ks : List Tm) (d : TD) (w : World) (ht : TR w (.mk op f lo hi ks) d) (ih : ∀ k ∈ ks, ∀ (d : TD) (w : World), TR w k d → Calls Try.prog 36 #[d.val] w (Tells w (.bool (rightT k)))) : Calls Try.prog 36 #[d.val] w (Tells w (.bool (rightT (.mk op f lo hi ks)))) := by
  cases ht with
  | mk _ _ _ _ _ q A c ds hq hl hn hk hr =>
  obtain ⟨n, hnn⟩ : ∃ n, ks.length = n := ⟨_, rfl⟩
  rw [hnn] at hn ⊢
  have HE : ∀ W : World, (Op.equalIn 10000 26 (.agg #[.int .u64 (uv (q 0)), .int .u64 (uv (q 1)), .int .u64 (uv (q 2)), .int .u64 (uv (q 3))]) (.agg #[.int .u64 0, .int .u64 0, .int .u64 0, .int .u64 0])).run Try.prog W = .ok (eqK f noB) W := fun W => eqk_is hq isK_zero W
  have IH := Lib.hid ih; have HK := Lib.hid hk; have HR := Lib.hid hr; have HL := Lib.hid hl; have HN := Lib.hid hnn
  have B1 := Lib.hid (below_new w (.cells #[.int .i64 op, .int .u64 (uv (q 0)), .int .u64 (uv (q 1)), .int .u64 (uv (q 2)), .int .u64 (uv (q 3)), .int .i64 lo, .int .i64 hi, .slice A n c] 29))
  obtain ⟨⟨x0, x1, x2, x3, x4, x5, x6, x7⟩, _⟩ := (TB.new w ⟨op, q, lo, hi, A, n, c⟩).all
  have OUT : Hid (rightT (.mk op f lo hi ks) = false → ∀ W', Below w.heap.size w W' → Tells w (.bool (rightT (.mk op f lo hi ks))) (.returned (.bool false)) W') := fun e W' hb => by rw [e]; exact ⟨rfl, hb⟩
  have YES : Hid (rightT (.mk op f lo hi ks) = true → ∀ W', Below w.heap.size w W' → Tells w (.bool (rightT (.mk op f lo hi ks))) (.returned (.bool true)) W') := fun e W' hb => by rw [e]; exact ⟨rfl, hb⟩
  clear ih hk hr hl hnn hq
  unfold TD.val
  subst h8
  obtain ⟨z, hz⟩ : ∃ z, eqK f noB = z := ⟨_, rfl⟩
  rw [hz] at HE
  have HZ := Lib.hid hz
  clear hz
  by_cases qn : (n : Int) = 0
  case neg =>
    cases z
    all_goals
      have E := Lib.hid (OUT.out (rt_no fun R => by have h1 := R.leaf (by omega); have h2 := HN.out; rw [h1] at h2; simp at h2; omega))
      clear OUT YES
      go_enter Try.func36, Try.ntmps36
      go_wp2
      all_goals (go_ret; exact E.out _ B1.out)
  by_cases hlo : lo = 0
  case neg =>
    cases z
    all_goals
      have E := Lib.hid (OUT.out (rt_no fun R => by exact hlo (R.num (by omega)).1))
      clear OUT YES
      go_enter Try.func36, Try.ntmps36
      go_wp2
      all_goals (go_ret; exact E.out _ B1.out)
  subst hlo
  by_cases hhi : hi = 0
  case neg =>
    cases z
    all_goals
      have E := Lib.hid (OUT.out (rt_no fun R => by exact hhi (R.num (by omega)).2))
      clear OUT YES
      go_enter Try.func36, Try.ntmps36
      go_wp2
      all_goals (go_ret; exact E.out _ B1.out)
  subst hhi
  cases z with
  | false =>
    have E := Lib.hid (OUT.out (rt_no fun R => by have := R.set (by omega); rw [HZ.out] at this; cases this))
    clear OUT YES
    go_enter Try.func36, Try.ntmps36
    go_wp2
    all_goals (go_ret; exact E.out _ B1.out)
  | true =>
  go_enter Try.func36, Try.ntmps36
  go_wp2_with fail
  go_loopw [4] (fun v wr => ∃ (i : Nat), i ≤ n ∧ v = .int .i64 (i : Nat) ∧ Hid (∀ (j : Nat) (k : Tm), j < i → ks[j]? = some k → rightT k = true) ∧ Hid (wr.cell? ⟨w.heap.size, 7, none⟩ = some (.slice A n c) ∧ w.heap.size < wr.heap.size ∧ Below w.heap.size w wr)) (fun v _ => n - (intOf v).toNat)
  case atStart => exact ⟨0, Nat.zero_le _, rfl, Lib.hid (fun j k hj => by omega), Lib.hid ⟨x7, by simp, B1.out⟩⟩
  case round =>
    obtain ⟨i, hi1, rfl, hZ, hW⟩ := hrel
    clear x0 x1 x2 x3 x4 x5 x6 x7 B1 HE
    by_cases hlt : i < n
    · exact absurd hlt (by omega)
    · have qi : ¬ (i : Int) < (n : Int) := by omega
      have hin : i = n := by omega
      have ALL : ∀ k ∈ ks, rightT k = true := fun k hk => by
        obtain ⟨j, hj⟩ := List.getElem?_of_mem hk
        obtain ⟨hj2, _⟩ := List.getElem?_eq_some_iff.mp hj
        exact hZ.out j k (by have := HN.out; omega) hj
      have E : Hid (∀ W', Below w.heap.size w W' → Tells w (.bool (rightT (.mk 3 f 0 0 ks))) (.returned (.bool true)) W') := by
        exact YES.out (right_mk ⟨by omega, by omega, fun _ => List.length_eq_zero_iff.1 (by have := HN.out; omega), fun h => by omega, fun h => by omega, fun _ => ⟨rfl, rfl⟩, fun _ => HZ.out, fun h => by omega, fun k hk => by have h1 := HN.out; have h2 := List.length_pos_of_mem hk; omega⟩)
      clear hZ OUT YES ALL
      go_wp2
      go_ret
      exact E.out _ hW.out.2.2
end Go.Proofs.Ytkljagffccommaa
namespace Go.Proofs.Ytkljagffccommaa
open Go.RowKit
set_option maxRecDepth 100000 in
set_option maxHeartbeats 8000000 in
theorem rightR_4 (op : Int) (h8 : op = 4) (f : Nat → Bool) (lo hi : Int) (ks : List Tm) (d : TD) (w : World) (ht : TR w (.mk op f lo hi ks) d) (ih : ∀ k ∈ ks, ∀ (d : TD) (w : World), TR w k d → Calls Try.prog 36 #[d.val] w (Tells w (.bool (rightT k)))) : Calls Try.prog 36 #[d.val] w (Tells w (.bool (rightT (.mk op f lo hi ks)))) := by
  cases ht with
  | mk _ _ _ _ _ q A c ds hq hl hn hk hr =>
  obtain ⟨n, hnn⟩ : ∃ n, ks.length = n := ⟨_, rfl⟩
  rw [hnn] at hn ⊢
  have HE : ∀ W : World, (Op.equalIn 10000 26 (.agg #[.int .u64 (uv (q 0)), .int .u64 (uv (q 1)), .int .u64 (uv (q 2)), .int .u64 (uv (q 3))]) (.agg #[.int .u64 0, .int .u64 0, .int .u64 0, .int .u64 0])).run Try.prog W = .ok (eqK f noB) W := fun W => eqk_is hq isK_zero W
  have IH := Lib.hid ih; have HK := Lib.hid hk; have HR := Lib.hid hr; have HL := Lib.hid hl; have HN := Lib.hid hnn
  have B1 := Lib.hid (below_new w (.cells #[.int .i64 op, .int .u64 (uv (q 0)), .int .u64 (uv (q 1)), .int .u64 (uv (q 2)), .int .u64 (uv (q 3)), .int .i64 lo, .int .i64 hi, .slice A n c] 29))
  obtain ⟨⟨x0, x1, x2, x3, x4, x5, x6, x7⟩, _⟩ := (TB.new w ⟨op, q, lo, hi, A, n, c⟩).all
  have OUT : Hid (rightT (.mk op f lo hi ks) = false → ∀ W', Below w.heap.size w W' → Tells w (.bool (rightT (.mk op f lo hi ks))) (.returned (.bool false)) W') := fun e W' hb => by rw [e]; exact ⟨rfl, hb⟩
  have YES : Hid (rightT (.mk op f lo hi ks) = true → ∀ W', Below w.heap.size w W' → Tells w (.bool (rightT (.mk op f lo hi ks))) (.returned (.bool true)) W') := fun e W' hb => by rw [e]; exact ⟨rfl, hb⟩
  clear ih hk hr hl hnn hq
  unfold TD.val
  subst h8
  obtain ⟨z, hz⟩ : ∃ z, eqK f noB = z := ⟨_, rfl⟩
  rw [hz] at HE
  have HZ := Lib.hid hz
  clear hz
  by_cases qn : (n : Int) = 0
  case neg =>
    cases z
    all_goals
      have E := Lib.hid (OUT.out (rt_no fun R => by have h1 := R.leaf (by omega); have h2 := HN.out; rw [h1] at h2; simp at h2; omega))
      clear OUT YES
      go_enter Try.func36, Try.ntmps36
      go_wp2
      all_goals (go_ret; exact E.out _ B1.out)
  by_cases hlo : lo = 0
  case neg =>
    cases z
    all_goals
      have E := Lib.hid (OUT.out (rt_no fun R => by exact hlo (R.num (by omega)).1))
      clear OUT YES
      go_enter Try.func36, Try.ntmps36
      go_wp2
      all_goals (go_ret; exact E.out _ B1.out)
  subst hlo
  by_cases hhi : hi = 0
  case neg =>
    cases z
    all_goals
      have E := Lib.hid (OUT.out (rt_no fun R => by exact hhi (R.num (by omega)).2))
      clear OUT YES
      go_enter Try.func36, Try.ntmps36
      go_wp2
      all_goals (go_ret; exact E.out _ B1.out)
  subst hhi
  cases z with
  | false =>
    have E := Lib.hid (OUT.out (rt_no fun R => by have := R.set (by omega); rw [HZ.out] at this; cases this))
    clear OUT YES
    go_enter Try.func36, Try.ntmps36
    go_wp2
    all_goals (go_ret; exact E.out _ B1.out)
  | true =>
  go_enter Try.func36, Try.ntmps36
  go_wp2_with fail
  go_loopw [4] (fun v wr => ∃ (i : Nat), i ≤ n ∧ v = .int .i64 (i : Nat) ∧ Hid (∀ (j : Nat) (k : Tm), j < i → ks[j]? = some k → rightT k = true) ∧ Hid (wr.cell? ⟨w.heap.size, 7, none⟩ = some (.slice A n c) ∧ w.heap.size < wr.heap.size ∧ Below w.heap.size w wr)) (fun v _ => n - (intOf v).toNat)
  case atStart => exact ⟨0, Nat.zero_le _, rfl, Lib.hid (fun j k hj => by omega), Lib.hid ⟨x7, by simp, B1.out⟩⟩
  case round =>
    obtain ⟨i, hi1, rfl, hZ, hW⟩ := hrel
    clear x0 x1 x2 x3 x4 x5 x6 x7 B1 HE
    by_cases hlt : i < n
    · exact absurd hlt (by omega)
    · have qi : ¬ (i : Int) < (n : Int) := by omega
      have hin : i = n := by omega
      have ALL : ∀ k ∈ ks, rightT k = true := fun k hk => by
        obtain ⟨j, hj⟩ := List.getElem?_of_mem hk
        obtain ⟨hj2, _⟩ := List.getElem?_eq_some_iff.mp hj
        exact hZ.out j k (by have := HN.out; omega) hj
      have E : Hid (∀ W', Below w.heap.size w W' → Tells w (.bool (rightT (.mk 4 f 0 0 ks))) (.returned (.bool true)) W') := by
        exact YES.out (right_mk ⟨by omega, by omega, fun _ => List.length_eq_zero_iff.1 (by have := HN.out; omega), fun h => by omega, fun h => by omega, fun _ => ⟨rfl, rfl⟩, fun _ => HZ.out, fun h => by omega, fun k hk => by have h1 := HN.out; have h2 := List.length_pos_of_mem hk; omega⟩)
      clear hZ OUT YES ALL
      go_wp2
      go_ret
      exact E.out _ hW.out.2.2
end Go.Proofs.Ytkljagffccommaa
namespace Go.Proofs.Ytkljagffccommaa
open Go.RowKit
set_option maxRecDepth 100000 in
set_option maxHeartbeats 8000000 in
theorem rightR_5 (op : Int) (h8 : op = 5) (f : Nat → Bool) (lo hi : Int) (ks : List Tm) (d : TD) (w : World) (ht : TR w (.mk op f lo hi ks) d) (ih : ∀ k ∈ ks, ∀ (d : TD) (w : World), TR w k d → Calls Try.prog 36 #[d.val] w (Tells w (.bool (rightT k)))) : Calls Try.prog 36 #[d.val] w (Tells w (.bool (rightT (.mk op f lo hi ks)))) := by
  cases ht with
  | mk _ _ _ _ _ q A c ds hq hl hn hk hr =>
  obtain ⟨n, hnn⟩ : ∃ n, ks.length = n := ⟨_, rfl⟩
  rw [hnn] at hn ⊢
  have HE : ∀ W : World, (Op.equalIn 10000 26 (.agg #[.int .u64 (uv (q 0)), .int .u64 (uv (q 1)), .int .u64 (uv (q 2)), .int .u64 (uv (q 3))]) (.agg #[.int .u64 0, .int .u64 0, .int .u64 0, .int .u64 0])).run Try.prog W = .ok (eqK f noB) W := fun W => eqk_is hq isK_zero W
  have IH := Lib.hid ih; have HK := Lib.hid hk; have HR := Lib.hid hr; have HL := Lib.hid hl; have HN := Lib.hid hnn
  have B1 := Lib.hid (below_new w (.cells #[.int .i64 op, .int .u64 (uv (q 0)), .int .u64 (uv (q 1)), .int .u64 (uv (q 2)), .int .u64 (uv (q 3)), .int .i64 lo, .int .i64 hi, .slice A n c] 29))
  obtain ⟨⟨x0, x1, x2, x3, x4, x5, x6, x7⟩, _⟩ := (TB.new w ⟨op, q, lo, hi, A, n, c⟩).all
  have OUT : Hid (rightT (.mk op f lo hi ks) = false → ∀ W', Below w.heap.size w W' → Tells w (.bool (rightT (.mk op f lo hi ks))) (.returned (.bool false)) W') := fun e W' hb => by rw [e]; exact ⟨rfl, hb⟩
  have YES : Hid (rightT (.mk op f lo hi ks) = true → ∀ W', Below w.heap.size w W' → Tells w (.bool (rightT (.mk op f lo hi ks))) (.returned (.bool true)) W') := fun e W' hb => by rw [e]; exact ⟨rfl, hb⟩
  clear ih hk hr hl hnn hq
  unfold TD.val
  subst h8
  obtain ⟨z, hz⟩ : ∃ z, eqK f noB = z := ⟨_, rfl⟩
  rw [hz] at HE
  have HZ := Lib.hid hz
  clear hz
  by_cases qn : (n : Int) = 0
  case neg =>
    cases z
    all_goals
      have E := Lib.hid (OUT.out (rt_no fun R => by have h1 := R.leaf (by omega); have h2 := HN.out; rw [h1] at h2; simp at h2; omega))
      clear OUT YES
      go_enter Try.func36, Try.ntmps36
      go_wp2
      all_goals (go_ret; exact E.out _ B1.out)
  by_cases hlo : lo = 0
  case neg =>
    cases z
    all_goals
      have E := Lib.hid (OUT.out (rt_no fun R => by exact hlo (R.num (by omega)).1))
      clear OUT YES
      go_enter Try.func36, Try.ntmps36
      go_wp2
      all_goals (go_ret; exact E.out _ B1.out)
  subst hlo
  by_cases hhi : hi = 0
  case neg =>
    cases z
    all_goals
      have E := Lib.hid (OUT.out (rt_no fun R => by exact hhi (R.num (by omega)).2))
      clear OUT YES
      go_enter Try.func36, Try.ntmps36
      go_wp2
      all_goals (go_ret; exact E.out _ B1.out)
  subst hhi
  cases z with
  | false =>
    have E := Lib.hid (OUT.out (rt_no fun R => by have := R.set (by omega); rw [HZ.out] at this; cases this))
    clear OUT YES
    go_enter Try.func36, Try.ntmps36
    go_wp2
    all_goals (go_ret; exact E.out _ B1.out)
  | true =>
  go_enter Try.func36, Try.ntmps36
  go_wp2_with fail
  go_loopw [4] (fun v wr => ∃ (i : Nat), i ≤ n ∧ v = .int .i64 (i : Nat) ∧ Hid (∀ (j : Nat) (k : Tm), j < i → ks[j]? = some k → rightT k = true) ∧ Hid (wr.cell? ⟨w.heap.size, 7, none⟩ = some (.slice A n c) ∧ w.heap.size < wr.heap.size ∧ Below w.heap.size w wr)) (fun v _ => n - (intOf v).toNat)
  case atStart => exact ⟨0, Nat.zero_le _, rfl, Lib.hid (fun j k hj => by omega), Lib.hid ⟨x7, by simp, B1.out⟩⟩
  case round =>
    obtain ⟨i, hi1, rfl, hZ, hW⟩ := hrel
    clear x0 x1 x2 x3 x4 x5 x6 x7 B1 HE
    by_cases hlt : i < n
    · exact absurd hlt (by omega)
    · have qi : ¬ (i : Int) < (n : Int) := by omega
      have hin : i = n := by omega
      have ALL : ∀ k ∈ ks, rightT k = true := fun k hk => by
        obtain ⟨j, hj⟩ := List.getElem?_of_mem hk
        obtain ⟨hj2, _⟩ := List.getElem?_eq_some_iff.mp hj
        exact hZ.out j k (by have := HN.out; omega) hj
      have E : Hid (∀ W', Below w.heap.size w W' → Tells w (.bool (rightT (.mk 5 f 0 0 ks))) (.returned (.bool true)) W') := by
        exact YES.out (right_mk ⟨by omega, by omega, fun _ => List.length_eq_zero_iff.1 (by have := HN.out; omega), fun h => by omega, fun h => by omega, fun _ => ⟨rfl, rfl⟩, fun _ => HZ.out, fun h => by omega, fun k hk => by have h1 := HN.out; have h2 := List.length_pos_of_mem hk; omega⟩)
      clear hZ OUT YES ALL
      go_wp2
      go_ret
      exact E.out _ hW.out.2.2
end Go.Proofs.Ytkljagffccommaa
namespace Go.Proofs.Ytkljagffccommaa
open Go.RowKit
set_option maxRecDepth 100000 in
set_option maxHeartbeats 8000000 in
theorem rightR_6 (op : Int) (h8 : op = 6) (f : Nat → Bool) (lo hi : Int) (ks : List Tm) (d : TD) (w : World) (ht : TR w (.mk op f lo hi ks) d) (ih : ∀ k ∈ ks, ∀ (d : TD) (w : World), TR w k d → Calls Try.prog 36 #[d.val] w (Tells w (.bool (rightT k)))) : Calls Try.prog 36 #[d.val] w (Tells w (.bool (rightT (.mk op f lo hi ks)))) := by
  cases ht with
  | mk _ _ _ _ _ q A c ds hq hl hn hk hr =>
  obtain ⟨n, hnn⟩ : ∃ n, ks.length = n := ⟨_, rfl⟩
  rw [hnn] at hn ⊢
  have HE : ∀ W : World, (Op.equalIn 10000 26 (.agg #[.int .u64 (uv (q 0)), .int .u64 (uv (q 1)), .int .u64 (uv (q 2)), .int .u64 (uv (q 3))]) (.agg #[.int .u64 0, .int .u64 0, .int .u64 0, .int .u64 0])).run Try.prog W = .ok (eqK f noB) W := fun W => eqk_is hq isK_zero W
  have IH := Lib.hid ih; have HK := Lib.hid hk; have HR := Lib.hid hr; have HL := Lib.hid hl; have HN := Lib.hid hnn
  have B1 := Lib.hid (below_new w (.cells #[.int .i64 op, .int .u64 (uv (q 0)), .int .u64 (uv (q 1)), .int .u64 (uv (q 2)), .int .u64 (uv (q 3)), .int .i64 lo, .int .i64 hi, .slice A n c] 29))
  obtain ⟨⟨x0, x1, x2, x3, x4, x5, x6, x7⟩, _⟩ := (TB.new w ⟨op, q, lo, hi, A, n, c⟩).all
  have OUT : Hid (rightT (.mk op f lo hi ks) = false → ∀ W', Below w.heap.size w W' → Tells w (.bool (rightT (.mk op f lo hi ks))) (.returned (.bool false)) W') := fun e W' hb => by rw [e]; exact ⟨rfl, hb⟩
  have YES : Hid (rightT (.mk op f lo hi ks) = true → ∀ W', Below w.heap.size w W' → Tells w (.bool (rightT (.mk op f lo hi ks))) (.returned (.bool true)) W') := fun e W' hb => by rw [e]; exact ⟨rfl, hb⟩
  clear ih hk hr hl hnn hq
  unfold TD.val
  subst h8
  obtain ⟨z, hz⟩ : ∃ z, eqK f noB = z := ⟨_, rfl⟩
  rw [hz] at HE
  have HZ := Lib.hid hz
  clear hz
  by_cases qn : ¬ (n : Int) < 2
  case neg =>
    cases z
    all_goals
      have E := Lib.hid (OUT.out (rt_no fun R => by have h1 := R.two (by omega); have h2 := HN.out; omega))
      clear OUT YES
      go_enter Try.func36, Try.ntmps36
      go_wp2
      all_goals (go_ret; exact E.out _ B1.out)
  by_cases hlo : lo = 0
  case neg =>
    cases z
    all_goals
      have E := Lib.hid (OUT.out (rt_no fun R => by exact hlo (R.num (by omega)).1))
      clear OUT YES
      go_enter Try.func36, Try.ntmps36
      go_wp2
      all_goals (go_ret; exact E.out _ B1.out)
  subst hlo
  by_cases hhi : hi = 0
  case neg =>
    cases z
    all_goals
      have E := Lib.hid (OUT.out (rt_no fun R => by exact hhi (R.num (by omega)).2))
      clear OUT YES
      go_enter Try.func36, Try.ntmps36
      go_wp2
      all_goals (go_ret; exact E.out _ B1.out)
  subst hhi
  cases z with
  | false =>
    have E := Lib.hid (OUT.out (rt_no fun R => by have := R.set (by omega); rw [HZ.out] at this; cases this))
    clear OUT YES
    go_enter Try.func36, Try.ntmps36
    go_wp2
    all_goals (go_ret; exact E.out _ B1.out)
  | true =>
  go_enter Try.func36, Try.ntmps36
  go_wp2_with fail
  go_loopw [4] (fun v wr => ∃ (i : Nat), i ≤ n ∧ v = .int .i64 (i : Nat) ∧ Hid (∀ (j : Nat) (k : Tm), j < i → ks[j]? = some k → rightT k = true) ∧ Hid (wr.cell? ⟨w.heap.size, 7, none⟩ = some (.slice A n c) ∧ w.heap.size < wr.heap.size ∧ Below w.heap.size w wr)) (fun v _ => n - (intOf v).toNat)
  case atStart => exact ⟨0, Nat.zero_le _, rfl, Lib.hid (fun j k hj => by omega), Lib.hid ⟨x7, by simp, B1.out⟩⟩
  case round =>
    obtain ⟨i, hi1, rfl, hZ, hW⟩ := hrel
    clear x0 x1 x2 x3 x4 x5 x6 x7 B1 HE
    by_cases hlt : i < n
    · have qi : (i : Int) < (n : Int) := by omega
      have hi2 : i < ks.length := by have := HN.out; omega
      have hi4 : i < ds.length := by have h1 := HL.out; omega
      obtain ⟨kb1, off1, rfl, hb1, hc1⟩ := HR.out (by omega)
      obtain ⟨a0, a1, a2, a3, a4, a5, a6, a7⟩ := kid_cells hW.out.2.2 hb1 hc1 (List.getElem?_eq_getElem hi4)
      have k1 := (HK.out i _ _ (List.getElem?_eq_getElem hi2) (List.getElem?_eq_getElem hi4)).keeps hW.out.2.2
      have tk : Hid (∀ k, ks[i]? = some k → k = ks[i]) := Lib.hid (fun k hk => by rw [List.getElem?_eq_getElem hi2] at hk; cases hk; rfl)
      have hm := List.getElem_mem hi2
      have NOK : Hid (rightT ks[i] = false → rightT (.mk 6 f 0 0 ks) = false) := Lib.hid fun e => rt_no fun R => by have := R.kids _ hm; rw [e] at this; cases this
      generalize ks[i] = kt at *
      generalize ds[i] = dt at *
      have D1 := Lib.hid (IH.out kt hm dt _ k1)
      have kbl : kb1 < wr.heap.size := Nat.lt_of_lt_of_le hb1 hW.out.2.2.size
      have q6 : IntKind.i64.wrap ((i : Int) + 1) = ((i + 1 : Nat) : Int) := by rw [IntWalk.i64_in _ (by omega)]; omega
      have c7 := hW.out.1
      have cl := hW.out.2.1
      clear hc1 k1 hi2 hi4 hb1 hm
      unfold TD.val at D1
      cases hkt : rightT kt with
      | false =>
        rw [hkt] at D1
        have E := Lib.hid (OUT.out (NOK.out hkt))
        clear hkt NOK OUT YES
        go_wp2_with fail
        refine D1.out.mono ?_
        rintro e w5 ⟨rfl, hb5⟩
        have B5 : Hid (Below w.heap.size w w5) := hW.out.2.2.trans (hb5.mono hW.out.2.2.size)
        clear D1 hW hb5 a0 a1 a2 a3 a4 a5 a6 a7 kbl c7 cl
        go_wp2
        go_ret
        exact E.out _ B5.out
      | true =>
        rw [hkt] at D1
        have OB := Lib.hid hkt
        clear hkt NOK
        go_wp2_with fail
        refine D1.out.mono ?_
        rintro e w5 ⟨rfl, hb5⟩
        have W5 : Hid (w5.cell? ⟨w.heap.size, 7, none⟩ = some (.slice (some ⟨kb1, off1, none⟩) n c) ∧ w.heap.size < w5.heap.size ∧ Below w.heap.size w w5) := ⟨(hb5.cell (p := ⟨w.heap.size, 7, none⟩) cl).trans c7, Nat.lt_of_lt_of_le cl hb5.size, hW.out.2.2.trans (hb5.mono hW.out.2.2.size)⟩
        clear D1 hW hb5 a0 a1 a2 a3 a4 a5 a6 a7 kbl c7 cl
        have Z2 : Hid (∀ (j : Nat) (k : Tm), j < i + 1 → ks[j]? = some k → rightT k = true) := Lib.hid (fun j k hj hk => by
          rcases Nat.lt_or_ge j i with h | h
          · exact hZ.out j k h hk
          · have : j = i := by omega
            subst this
            rw [tk.out k hk]
            exact OB.out)
        clear hZ tk OB
        go_wp2_with fail
        go_roundw
        case rel => exact ⟨i + 1, by omega, by simp, Z2, W5⟩
        case measure => simp [intOf]; omega
    · have qi : ¬ (i : Int) < (n : Int) := by omega
      have hin : i = n := by omega
      have ALL : ∀ k ∈ ks, rightT k = true := fun k hk => by
        obtain ⟨j, hj⟩ := List.getElem?_of_mem hk
        obtain ⟨hj2, _⟩ := List.getElem?_eq_some_iff.mp hj
        exact hZ.out j k (by have := HN.out; omega) hj
      have E : Hid (∀ W', Below w.heap.size w W' → Tells w (.bool (rightT (.mk 6 f 0 0 ks))) (.returned (.bool true)) W') := by
        exact YES.out (right_mk ⟨by omega, by omega, fun h => by omega, fun _ => by have := HN.out; omega, fun h => by omega, fun _ => ⟨rfl, rfl⟩, fun _ => HZ.out, fun h => by omega, ALL⟩)
      clear hZ OUT YES ALL
      go_wp2
      go_ret
      exact E.out _ hW.out.2.2
end Go.Proofs.Ytkljagffccommaa
namespace Go.Proofs.Ytkljagffccommaa
open Go.RowKit
set_option maxRecDepth 100000 in
set_option maxHeartbeats 8000000 in
theorem rightR_7 (op : Int) (h8 : op = 7) (f : Nat → Bool) (lo hi : Int) (ks : List Tm) (d : TD) (w : World) (ht : TR w (.mk op f lo hi ks) d) (ih : ∀ k ∈ ks, ∀ (d : TD) (w : World), TR w k d → Calls Try.prog 36 #[d.val] w (Tells w (.bool (rightT k)))) : Calls Try.prog 36 #[d.val] w (Tells w (.bool (rightT (.mk op f lo hi ks)))) := by
  cases ht with
  | mk _ _ _ _ _ q A c ds hq hl hn hk hr =>
  obtain ⟨n, hnn⟩ : ∃ n, ks.length = n := ⟨_, rfl⟩
  rw [hnn] at hn ⊢
  have HE : ∀ W : World, (Op.equalIn 10000 26 (.agg #[.int .u64 (uv (q 0)), .int .u64 (uv (q 1)), .int .u64 (uv (q 2)), .int .u64 (uv (q 3))]) (.agg #[.int .u64 0, .int .u64 0, .int .u64 0, .int .u64 0])).run Try.prog W = .ok (eqK f noB) W := fun W => eqk_is hq isK_zero W
  have IH := Lib.hid ih; have HK := Lib.hid hk; have HR := Lib.hid hr; have HL := Lib.hid hl; have HN := Lib.hid hnn
  have B1 := Lib.hid (below_new w (.cells #[.int .i64 op, .int .u64 (uv (q 0)), .int .u64 (uv (q 1)), .int .u64 (uv (q 2)), .int .u64 (uv (q 3)), .int .i64 lo, .int .i64 hi, .slice A n c] 29))
  obtain ⟨⟨x0, x1, x2, x3, x4, x5, x6, x7⟩, _⟩ := (TB.new w ⟨op, q, lo, hi, A, n, c⟩).all
  have OUT : Hid (rightT (.mk op f lo hi ks) = false → ∀ W', Below w.heap.size w W' → Tells w (.bool (rightT (.mk op f lo hi ks))) (.returned (.bool false)) W') := fun e W' hb => by rw [e]; exact ⟨rfl, hb⟩
  have YES : Hid (rightT (.mk op f lo hi ks) = true → ∀ W', Below w.heap.size w W' → Tells w (.bool (rightT (.mk op f lo hi ks))) (.returned (.bool true)) W') := fun e W' hb => by rw [e]; exact ⟨rfl, hb⟩
  clear ih hk hr hl hnn hq
  unfold TD.val
  subst h8
  obtain ⟨z, hz⟩ : ∃ z, eqK f noB = z := ⟨_, rfl⟩
  rw [hz] at HE
  have HZ := Lib.hid hz
  clear hz
  by_cases qn : ¬ (n : Int) < 2
  case neg =>
    cases z
    all_goals
      have E := Lib.hid (OUT.out (rt_no fun R => by have h1 := R.two (by omega); have h2 := HN.out; omega))
      clear OUT YES
      go_enter Try.func36, Try.ntmps36
      go_wp2
      all_goals (go_ret; exact E.out _ B1.out)
  by_cases hlo : lo = 0
  case neg =>
    cases z
    all_goals
      have E := Lib.hid (OUT.out (rt_no fun R => by exact hlo (R.num (by omega)).1))
      clear OUT YES
      go_enter Try.func36, Try.ntmps36
      go_wp2
      all_goals (go_ret; exact E.out _ B1.out)
  subst hlo
  by_cases hhi : hi = 0
  case neg =>
    cases z
    all_goals
      have E := Lib.hid (OUT.out (rt_no fun R => by exact hhi (R.num (by omega)).2))
      clear OUT YES
      go_enter Try.func36, Try.ntmps36
      go_wp2
      all_goals (go_ret; exact E.out _ B1.out)
  subst hhi
  cases z with
  | false =>
    have E := Lib.hid (OUT.out (rt_no fun R => by have := R.set (by omega); rw [HZ.out] at this; cases this))
    clear OUT YES
    go_enter Try.func36, Try.ntmps36
    go_wp2
    all_goals (go_ret; exact E.out _ B1.out)
  | true =>
  go_enter Try.func36, Try.ntmps36
  go_wp2_with fail
  go_loopw [4] (fun v wr => ∃ (i : Nat), i ≤ n ∧ v = .int .i64 (i : Nat) ∧ Hid (∀ (j : Nat) (k : Tm), j < i → ks[j]? = some k → rightT k = true) ∧ Hid (wr.cell? ⟨w.heap.size, 7, none⟩ = some (.slice A n c) ∧ w.heap.size < wr.heap.size ∧ Below w.heap.size w wr)) (fun v _ => n - (intOf v).toNat)
  case atStart => exact ⟨0, Nat.zero_le _, rfl, Lib.hid (fun j k hj => by omega), Lib.hid ⟨x7, by simp, B1.out⟩⟩
  case round =>
    obtain ⟨i, hi1, rfl, hZ, hW⟩ := hrel
    clear x0 x1 x2 x3 x4 x5 x6 x7 B1 HE
    by_cases hlt : i < n
    · have qi : (i : Int) < (n : Int) := by omega
      have hi2 : i < ks.length := by have := HN.out; omega
      have hi4 : i < ds.length := by have h1 := HL.out; omega
      obtain ⟨kb1, off1, rfl, hb1, hc1⟩ := HR.out (by omega)
      obtain ⟨a0, a1, a2, a3, a4, a5, a6, a7⟩ := kid_cells hW.out.2.2 hb1 hc1 (List.getElem?_eq_getElem hi4)
      have k1 := (HK.out i _ _ (List.getElem?_eq_getElem hi2) (List.getElem?_eq_getElem hi4)).keeps hW.out.2.2
      have tk : Hid (∀ k, ks[i]? = some k → k = ks[i]) := Lib.hid (fun k hk => by rw [List.getElem?_eq_getElem hi2] at hk; cases hk; rfl)
      have hm := List.getElem_mem hi2
      have NOK : Hid (rightT ks[i] = false → rightT (.mk 7 f 0 0 ks) = false) := Lib.hid fun e => rt_no fun R => by have := R.kids _ hm; rw [e] at this; cases this
      generalize ks[i] = kt at *
      generalize ds[i] = dt at *
      have D1 := Lib.hid (IH.out kt hm dt _ k1)
      have kbl : kb1 < wr.heap.size := Nat.lt_of_lt_of_le hb1 hW.out.2.2.size
      have q6 : IntKind.i64.wrap ((i : Int) + 1) = ((i + 1 : Nat) : Int) := by rw [IntWalk.i64_in _ (by omega)]; omega
      have c7 := hW.out.1
      have cl := hW.out.2.1
      clear hc1 k1 hi2 hi4 hb1 hm
      unfold TD.val at D1
      cases hkt : rightT kt with
      | false =>
        rw [hkt] at D1
        have E := Lib.hid (OUT.out (NOK.out hkt))
        clear hkt NOK OUT YES
        go_wp2_with fail
        refine D1.out.mono ?_
        rintro e w5 ⟨rfl, hb5⟩
        have B5 : Hid (Below w.heap.size w w5) := hW.out.2.2.trans (hb5.mono hW.out.2.2.size)
        clear D1 hW hb5 a0 a1 a2 a3 a4 a5 a6 a7 kbl c7 cl
        go_wp2
        go_ret
        exact E.out _ B5.out
      | true =>
        rw [hkt] at D1
        have OB := Lib.hid hkt
        clear hkt NOK
        go_wp2_with fail
        refine D1.out.mono ?_
        rintro e w5 ⟨rfl, hb5⟩
        have W5 : Hid (w5.cell? ⟨w.heap.size, 7, none⟩ = some (.slice (some ⟨kb1, off1, none⟩) n c) ∧ w.heap.size < w5.heap.size ∧ Below w.heap.size w w5) := ⟨(hb5.cell (p := ⟨w.heap.size, 7, none⟩) cl).trans c7, Nat.lt_of_lt_of_le cl hb5.size, hW.out.2.2.trans (hb5.mono hW.out.2.2.size)⟩
        clear D1 hW hb5 a0 a1 a2 a3 a4 a5 a6 a7 kbl c7 cl
        have Z2 : Hid (∀ (j : Nat) (k : Tm), j < i + 1 → ks[j]? = some k → rightT k = true) := Lib.hid (fun j k hj hk => by
          rcases Nat.lt_or_ge j i with h | h
          · exact hZ.out j k h hk
          · have : j = i := by omega
            subst this
            rw [tk.out k hk]
            exact OB.out)
        clear hZ tk OB
        go_wp2_with fail
        go_roundw
        case rel => exact ⟨i + 1, by omega, by simp, Z2, W5⟩
        case measure => simp [intOf]; omega
    · have qi : ¬ (i : Int) < (n : Int) := by omega
      have hin : i = n := by omega
      have ALL : ∀ k ∈ ks, rightT k = true := fun k hk => by
        obtain ⟨j, hj⟩ := List.getElem?_of_mem hk
        obtain ⟨hj2, _⟩ := List.getElem?_eq_some_iff.mp hj
        exact hZ.out j k (by have := HN.out; omega) hj
      have E : Hid (∀ W', Below w.heap.size w W' → Tells w (.bool (rightT (.mk 7 f 0 0 ks))) (.returned (.bool true)) W') := by
        exact YES.out (right_mk ⟨by omega, by omega, fun h => by omega, fun _ => by have := HN.out; omega, fun h => by omega, fun _ => ⟨rfl, rfl⟩, fun _ => HZ.out, fun h => by omega, ALL⟩)
      clear hZ OUT YES ALL
      go_wp2
      go_ret
      exact E.out _ hW.out.2.2
end Go.Proofs.Ytkljagffccommaa
namespace Go.Proofs.Ytkljagffccommaa
open Go.RowKit
set_option maxRecDepth 100000 in
set_option maxHeartbeats 8000000 in
theorem rightR_8 (op : Int) (h8 : op = 8) (f : Nat → Bool) (lo hi : Int) (ks : List Tm) (d : TD) (w : World) (ht : TR w (.mk op f lo hi ks) d) (ih : ∀ k ∈ ks, ∀ (d : TD) (w : World), TR w k d → Calls Try.prog 36 #[d.val] w (Tells w (.bool (rightT k)))) : Calls Try.prog 36 #[d.val] w (Tells w (.bool (rightT (.mk op f lo hi ks)))) := by
  cases ht with
  | mk _ _ _ _ _ q A c ds hq hl hn hk hr =>
  obtain ⟨n, hnn⟩ : ∃ n, ks.length = n := ⟨_, rfl⟩
  rw [hnn] at hn ⊢
  have HE : ∀ W : World, (Op.equalIn 10000 26 (.agg #[.int .u64 (uv (q 0)), .int .u64 (uv (q 1)), .int .u64 (uv (q 2)), .int .u64 (uv (q 3))]) (.agg #[.int .u64 0, .int .u64 0, .int .u64 0, .int .u64 0])).run Try.prog W = .ok (eqK f noB) W := fun W => eqk_is hq isK_zero W
  have IH := Lib.hid ih; have HK := Lib.hid hk; have HR := Lib.hid hr; have HL := Lib.hid hl; have HN := Lib.hid hnn
  have B1 := Lib.hid (below_new w (.cells #[.int .i64 op, .int .u64 (uv (q 0)), .int .u64 (uv (q 1)), .int .u64 (uv (q 2)), .int .u64 (uv (q 3)), .int .i64 lo, .int .i64 hi, .slice A n c] 29))
  obtain ⟨⟨x0, x1, x2, x3, x4, x5, x6, x7⟩, _⟩ := (TB.new w ⟨op, q, lo, hi, A, n, c⟩).all
  have OUT : Hid (rightT (.mk op f lo hi ks) = false → ∀ W', Below w.heap.size w W' → Tells w (.bool (rightT (.mk op f lo hi ks))) (.returned (.bool false)) W') := fun e W' hb => by rw [e]; exact ⟨rfl, hb⟩
  have YES : Hid (rightT (.mk op f lo hi ks) = true → ∀ W', Below w.heap.size w W' → Tells w (.bool (rightT (.mk op f lo hi ks))) (.returned (.bool true)) W') := fun e W' hb => by rw [e]; exact ⟨rfl, hb⟩
  clear ih hk hr hl hnn hq
  unfold TD.val
  subst h8
  obtain ⟨z, hz⟩ : ∃ z, eqK f noB = z := ⟨_, rfl⟩
  rw [hz] at HE
  have HZ := Lib.hid hz
  clear hz
  by_cases qn : (n : Int) = 1
  case neg =>
    cases z
    all_goals
      have E := Lib.hid (OUT.out (rt_no fun R => by have h1 := R.rep rfl; have h2 := HN.out; omega))
      clear OUT YES
      go_enter Try.func36, Try.ntmps36
      go_wp2
      all_goals (go_ret; exact E.out _ B1.out)
  by_cases c1 : ¬ lo < 0
  case neg =>
    cases z
    all_goals
      have E := Lib.hid (OUT.out (rt_no fun R => by have h := R.bnd rfl; unfold bndOk at h; omega))
      clear OUT YES
      go_enter Try.func36, Try.ntmps36
      go_wp2
      all_goals (go_ret; exact E.out _ B1.out)
  by_cases c2 : ¬ 200 < lo
  case neg =>
    cases z
    all_goals
      have E := Lib.hid (OUT.out (rt_no fun R => by have h := R.bnd rfl; unfold bndOk at h; omega))
      clear OUT YES
      go_enter Try.func36, Try.ntmps36
      go_wp2
      all_goals (go_ret; exact E.out _ B1.out)
  by_cases c3 : ¬ hi < -1
  case neg =>
    cases z
    all_goals
      have E := Lib.hid (OUT.out (rt_no fun R => by have h := R.bnd rfl; unfold bndOk at h; omega))
      clear OUT YES
      go_enter Try.func36, Try.ntmps36
      go_wp2
      all_goals (go_ret; exact E.out _ B1.out)
  by_cases c4 : ¬ 200 < hi
  case neg =>
    cases z
    all_goals
      have E := Lib.hid (OUT.out (rt_no fun R => by have h := R.bnd rfl; unfold bndOk at h; omega))
      clear OUT YES
      go_enter Try.func36, Try.ntmps36
      go_wp2
      all_goals (go_ret; exact E.out _ B1.out)
  cases z with
  | false =>
    have E := Lib.hid (OUT.out (rt_no fun R => by have := R.set (by omega); rw [HZ.out] at this; cases this))
    clear OUT YES
    go_enter Try.func36, Try.ntmps36
    go_wp2
    all_goals (go_ret; exact E.out _ B1.out)
  | true =>
  by_cases c6 : 0 ≤ hi
  case neg =>
    go_enter Try.func36, Try.ntmps36
    go_wp2_with fail
    go_loopw [4] (fun v wr => ∃ (i : Nat), i ≤ n ∧ v = .int .i64 (i : Nat) ∧ Hid (∀ (j : Nat) (k : Tm), j < i → ks[j]? = some k → rightT k = true) ∧ Hid (wr.cell? ⟨w.heap.size, 7, none⟩ = some (.slice A n c) ∧ w.heap.size < wr.heap.size ∧ Below w.heap.size w wr)) (fun v _ => n - (intOf v).toNat)
    case atStart => exact ⟨0, Nat.zero_le _, rfl, Lib.hid (fun j k hj => by omega), Lib.hid ⟨x7, by simp, B1.out⟩⟩
    case round =>
      obtain ⟨i, hi1, rfl, hZ, hW⟩ := hrel
      clear x0 x1 x2 x3 x4 x5 x6 x7 B1 HE
      by_cases hlt : i < n
      · have qi : (i : Int) < (n : Int) := by omega
        have hi2 : i < ks.length := by have := HN.out; omega
        have hi4 : i < ds.length := by have h1 := HL.out; omega
        obtain ⟨kb1, off1, rfl, hb1, hc1⟩ := HR.out (by omega)
        obtain ⟨a0, a1, a2, a3, a4, a5, a6, a7⟩ := kid_cells hW.out.2.2 hb1 hc1 (List.getElem?_eq_getElem hi4)
        have k1 := (HK.out i _ _ (List.getElem?_eq_getElem hi2) (List.getElem?_eq_getElem hi4)).keeps hW.out.2.2
        have tk : Hid (∀ k, ks[i]? = some k → k = ks[i]) := Lib.hid (fun k hk => by rw [List.getElem?_eq_getElem hi2] at hk; cases hk; rfl)
        have hm := List.getElem_mem hi2
        have NOK : Hid (rightT ks[i] = false → rightT (.mk 8 f lo hi ks) = false) := Lib.hid fun e => rt_no fun R => by have := R.kids _ hm; rw [e] at this; cases this
        generalize ks[i] = kt at *
        generalize ds[i] = dt at *
        have D1 := Lib.hid (IH.out kt hm dt _ k1)
        have kbl : kb1 < wr.heap.size := Nat.lt_of_lt_of_le hb1 hW.out.2.2.size
        have q6 : IntKind.i64.wrap ((i : Int) + 1) = ((i + 1 : Nat) : Int) := by rw [IntWalk.i64_in _ (by omega)]; omega
        have c7 := hW.out.1
        have cl := hW.out.2.1
        clear hc1 k1 hi2 hi4 hb1 hm
        unfold TD.val at D1
        cases hkt : rightT kt with
        | false =>
          rw [hkt] at D1
          have E := Lib.hid (OUT.out (NOK.out hkt))
          clear hkt NOK OUT YES
          go_wp2_with fail
          refine D1.out.mono ?_
          rintro e w5 ⟨rfl, hb5⟩
          have B5 : Hid (Below w.heap.size w w5) := hW.out.2.2.trans (hb5.mono hW.out.2.2.size)
          clear D1 hW hb5 a0 a1 a2 a3 a4 a5 a6 a7 kbl c7 cl
          go_wp2
          go_ret
          exact E.out _ B5.out
        | true =>
          rw [hkt] at D1
          have OB := Lib.hid hkt
          clear hkt NOK
          go_wp2_with fail
          refine D1.out.mono ?_
          rintro e w5 ⟨rfl, hb5⟩
          have W5 : Hid (w5.cell? ⟨w.heap.size, 7, none⟩ = some (.slice (some ⟨kb1, off1, none⟩) n c) ∧ w.heap.size < w5.heap.size ∧ Below w.heap.size w w5) := ⟨(hb5.cell (p := ⟨w.heap.size, 7, none⟩) cl).trans c7, Nat.lt_of_lt_of_le cl hb5.size, hW.out.2.2.trans (hb5.mono hW.out.2.2.size)⟩
          clear D1 hW hb5 a0 a1 a2 a3 a4 a5 a6 a7 kbl c7 cl
          have Z2 : Hid (∀ (j : Nat) (k : Tm), j < i + 1 → ks[j]? = some k → rightT k = true) := Lib.hid (fun j k hj hk => by
            rcases Nat.lt_or_ge j i with h | h
            · exact hZ.out j k h hk
            · have : j = i := by omega
              subst this
              rw [tk.out k hk]
              exact OB.out)
          clear hZ tk OB
          go_wp2_with fail
          go_roundw
          case rel => exact ⟨i + 1, by omega, by simp, Z2, W5⟩
          case measure => simp [intOf]; omega
      · have qi : ¬ (i : Int) < (n : Int) := by omega
        have hin : i = n := by omega
        have ALL : ∀ k ∈ ks, rightT k = true := fun k hk => by
          obtain ⟨j, hj⟩ := List.getElem?_of_mem hk
          obtain ⟨hj2, _⟩ := List.getElem?_eq_some_iff.mp hj
          exact hZ.out j k (by have := HN.out; omega) hj
        have E : Hid (∀ W', Below w.heap.size w W' → Tells w (.bool (rightT (.mk 8 f lo hi ks))) (.returned (.bool true)) W') := by
          exact YES.out (right_mk ⟨by omega, by omega, fun h => by omega, fun h => by omega, fun _ => by have := HN.out; omega, fun h => absurd rfl h, fun _ => HZ.out, fun _ => by unfold bndOk; omega, ALL⟩)
        clear hZ OUT YES ALL
        go_wp2
        go_ret
        exact E.out _ hW.out.2.2
  by_cases c5 : ¬ hi < lo
  case neg =>
    have E := Lib.hid (OUT.out (rt_no fun R => by have h := R.bnd rfl; unfold bndOk at h; omega))
    clear OUT YES
    go_enter Try.func36, Try.ntmps36
    go_wp2
    all_goals (go_ret; exact E.out _ B1.out)
  go_enter Try.func36, Try.ntmps36
  go_wp2_with fail
  go_loopw [4] (fun v wr => ∃ (i : Nat), i ≤ n ∧ v = .int .i64 (i : Nat) ∧ Hid (∀ (j : Nat) (k : Tm), j < i → ks[j]? = some k → rightT k = true) ∧ Hid (wr.cell? ⟨w.heap.size, 7, none⟩ = some (.slice A n c) ∧ w.heap.size < wr.heap.size ∧ Below w.heap.size w wr)) (fun v _ => n - (intOf v).toNat)
  case atStart => exact ⟨0, Nat.zero_le _, rfl, Lib.hid (fun j k hj => by omega), Lib.hid ⟨x7, by simp, B1.out⟩⟩
  case round =>
    obtain ⟨i, hi1, rfl, hZ, hW⟩ := hrel
    clear x0 x1 x2 x3 x4 x5 x6 x7 B1 HE
    by_cases hlt : i < n
    · have qi : (i : Int) < (n : Int) := by omega
      have hi2 : i < ks.length := by have := HN.out; omega
      have hi4 : i < ds.length := by have h1 := HL.out; omega
      obtain ⟨kb1, off1, rfl, hb1, hc1⟩ := HR.out (by omega)
      obtain ⟨a0, a1, a2, a3, a4, a5, a6, a7⟩ := kid_cells hW.out.2.2 hb1 hc1 (List.getElem?_eq_getElem hi4)
      have k1 := (HK.out i _ _ (List.getElem?_eq_getElem hi2) (List.getElem?_eq_getElem hi4)).keeps hW.out.2.2
      have tk : Hid (∀ k, ks[i]? = some k → k = ks[i]) := Lib.hid (fun k hk => by rw [List.getElem?_eq_getElem hi2] at hk; cases hk; rfl)
      have hm := List.getElem_mem hi2
      have NOK : Hid (rightT ks[i] = false → rightT (.mk 8 f lo hi ks) = false) := Lib.hid fun e => rt_no fun R => by have := R.kids _ hm; rw [e] at this; cases this
      generalize ks[i] = kt at *
      generalize ds[i] = dt at *
      have D1 := Lib.hid (IH.out kt hm dt _ k1)
      have kbl : kb1 < wr.heap.size := Nat.lt_of_lt_of_le hb1 hW.out.2.2.size
      have q6 : IntKind.i64.wrap ((i : Int) + 1) = ((i + 1 : Nat) : Int) := by rw [IntWalk.i64_in _ (by omega)]; omega
      have c7 := hW.out.1
      have cl := hW.out.2.1
      clear hc1 k1 hi2 hi4 hb1 hm
      unfold TD.val at D1
      cases hkt : rightT kt with
      | false =>
        rw [hkt] at D1
        have E := Lib.hid (OUT.out (NOK.out hkt))
        clear hkt NOK OUT YES
        go_wp2_with fail
        refine D1.out.mono ?_
        rintro e w5 ⟨rfl, hb5⟩
        have B5 : Hid (Below w.heap.size w w5) := hW.out.2.2.trans (hb5.mono hW.out.2.2.size)
        clear D1 hW hb5 a0 a1 a2 a3 a4 a5 a6 a7 kbl c7 cl
        go_wp2
        go_ret
        exact E.out _ B5.out
      | true =>
        rw [hkt] at D1
        have OB := Lib.hid hkt
        clear hkt NOK
        go_wp2_with fail
        refine D1.out.mono ?_
        rintro e w5 ⟨rfl, hb5⟩
        have W5 : Hid (w5.cell? ⟨w.heap.size, 7, none⟩ = some (.slice (some ⟨kb1, off1, none⟩) n c) ∧ w.heap.size < w5.heap.size ∧ Below w.heap.size w w5) := ⟨(hb5.cell (p := ⟨w.heap.size, 7, none⟩) cl).trans c7, Nat.lt_of_lt_of_le cl hb5.size, hW.out.2.2.trans (hb5.mono hW.out.2.2.size)⟩
        clear D1 hW hb5 a0 a1 a2 a3 a4 a5 a6 a7 kbl c7 cl
        have Z2 : Hid (∀ (j : Nat) (k : Tm), j < i + 1 → ks[j]? = some k → rightT k = true) := Lib.hid (fun j k hj hk => by
          rcases Nat.lt_or_ge j i with h | h
          · exact hZ.out j k h hk
          · have : j = i := by omega
            subst this
            rw [tk.out k hk]
            exact OB.out)
        clear hZ tk OB
        go_wp2_with fail
        go_roundw
        case rel => exact ⟨i + 1, by omega, by simp, Z2, W5⟩
        case measure => simp [intOf]; omega
    · have qi : ¬ (i : Int) < (n : Int) := by omega
      have hin : i = n := by omega
      have ALL : ∀ k ∈ ks, rightT k = true := fun k hk => by
        obtain ⟨j, hj⟩ := List.getElem?_of_mem hk
        obtain ⟨hj2, _⟩ := List.getElem?_eq_some_iff.mp hj
        exact hZ.out j k (by have := HN.out; omega) hj
      have E : Hid (∀ W', Below w.heap.size w W' → Tells w (.bool (rightT (.mk 8 f lo hi ks))) (.returned (.bool true)) W') := by
        exact YES.out (right_mk ⟨by omega, by omega, fun h => by omega, fun h => by omega, fun _ => by have := HN.out; omega, fun h => absurd rfl h, fun _ => HZ.out, fun _ => by unfold bndOk; omega, ALL⟩)
      clear hZ OUT YES ALL
      go_wp2
      go_ret
      exact E.out _ hW.out.2.2
end Go.Proofs.Ytkljagffccommaa
namespace Go.Proofs.Ytkljagffccommaa
open Go.RowKit
theorem rightR_any : ∀ (t : Tm) (d : TD) (w : World), TR w t d → Calls Try.prog 36 #[d.val] w (Tells w (.bool (rightT t))) := by
  intro t
  induction t using Tm.ind with
  | h op f lo hi ks ih =>
  intro d w ht
  by_cases ho : op < 1 ∨ 8 < op
  · exact rightR_out op ho f lo hi ks d w ht ih
  have h : op = 1 ∨ op = 2 ∨ op = 3 ∨ op = 4 ∨ op = 5 ∨ op = 6 ∨ op = 7 ∨ op = 8 := by omega
  rcases h with h | h | h | h | h | h | h | h
  · exact rightR_1 op h f lo hi ks d w ht ih
  · exact rightR_2 op h f lo hi ks d w ht ih
  · exact rightR_3 op h f lo hi ks d w ht ih
  · exact rightR_4 op h f lo hi ks d w ht ih
  · exact rightR_5 op h f lo hi ks d w ht ih
  · exact rightR_6 op h f lo hi ks d w ht ih
  · exact rightR_7 op h f lo hi ks d w ht ih
  · exact rightR_8 op h f lo hi ks d w ht ih
end Go.Proofs.Ytkljagffccommaa
namespace Go.Proofs.Ytkljagffccommaa
open Go.RowKit
set_option maxRecDepth 100000 in
set_option maxHeartbeats 8000000 in
theorem right_1 (op : Int) (h8 : op = 1) (f : Nat → Bool) (lo hi : Int) (ks : List Tm) (d : TD) (w : World) (ht : TR w (.mk op f lo hi ks) d) (ih : ∀ k ∈ ks, ∀ (d : TD) (w : World), TR w k d → Calls Try.prog 36 #[d.val] w (Rgt w k)) : Calls Try.prog 36 #[d.val] w (Rgt w (.mk op f lo hi ks)) := by
  cases ht with
  | mk _ _ _ _ _ q A c ds hq hl hn hk hr =>
  obtain ⟨n, hnn⟩ : ∃ n, ks.length = n := ⟨_, rfl⟩
  rw [hnn] at hn ⊢
  have HE : ∀ W : World, (Op.equalIn 10000 26 (.agg #[.int .u64 (uv (q 0)), .int .u64 (uv (q 1)), .int .u64 (uv (q 2)), .int .u64 (uv (q 3))]) (.agg #[.int .u64 0, .int .u64 0, .int .u64 0, .int .u64 0])).run Try.prog W = .ok (eqK f noB) W := fun W => eqk_is hq isK_zero W
  have HOK : Hid ((1 ≤ op ∧ op ≤ 8) → (op < 6 → n = 0) → (op = 6 ∨ op = 7 → 2 ≤ n) → (op = 8 → n = 1 ∧ 0 ≤ lo ∧ lo ≤ 200 ∧ -1 ≤ hi ∧ hi ≤ 200 ∧ (0 ≤ hi → lo ≤ hi)) → (∀ k ∈ ks, Rt k) → Rt (.mk op f lo hi ks)) := fun a1 a2 a3 a4 b => .mk _ _ _ _ _ (by rw [hnn]; exact ⟨a1, a2, a3, a4⟩) b
  generalize eqK f noB = z at HE
  have IH := Lib.hid ih; have HK := Lib.hid hk; have HR := Lib.hid hr; have HL := Lib.hid hl; have HN := Lib.hid hnn
  have B1 := Lib.hid (below_new w (.cells #[.int .i64 op, .int .u64 (uv (q 0)), .int .u64 (uv (q 1)), .int .u64 (uv (q 2)), .int .u64 (uv (q 3)), .int .i64 lo, .int .i64 hi, .slice A n c] 29))
  obtain ⟨⟨x0, x1, x2, x3, x4, x5, x6, x7⟩, _⟩ := (TB.new w ⟨op, q, lo, hi, A, n, c⟩).all
  clear ih hk hr hl hnn hq
  unfold TD.val
  subst h8
  by_cases qn : (n : Int) = 0
  case neg =>
    cases z
    all_goals
      go_enter Try.func36, Try.ntmps36
      go_wp2
      all_goals (go_ret; exact ⟨false, rfl, (fun h => by cases h), B1.out⟩)
  by_cases hlo : lo = 0
  case neg =>
    cases z
    all_goals
      go_enter Try.func36, Try.ntmps36
      go_wp2
      all_goals (go_ret; exact ⟨false, rfl, (fun h => by cases h), B1.out⟩)
  subst hlo
  by_cases hhi : hi = 0
  case neg =>
    cases z
    all_goals
      go_enter Try.func36, Try.ntmps36
      go_wp2
      all_goals (go_ret; exact ⟨false, rfl, (fun h => by cases h), B1.out⟩)
  subst hhi
  cases z
  all_goals
    go_enter Try.func36, Try.ntmps36
    go_wp2_with fail
    all_goals (try (go_ret; exact ⟨false, rfl, (fun h => by cases h), B1.out⟩))
  all_goals
    have HO2 := Lib.hid (HOK.out ⟨by omega, by omega⟩ (fun _ => by omega) (fun _ => by omega) (fun _ => by omega))
    go_loopw [4] (fun v wr => ∃ (i : Nat), i ≤ n ∧ v = .int .i64 (i : Nat) ∧ Hid (∀ (j : Nat) (k : Tm), j < i → ks[j]? = some k → Rt k) ∧ Hid (wr.cell? ⟨w.heap.size, 7, none⟩ = some (.slice A n c) ∧ w.heap.size < wr.heap.size ∧ Below w.heap.size w wr)) (fun v _ => n - (intOf v).toNat)
    case atStart => exact ⟨0, Nat.zero_le _, rfl, Lib.hid (fun j k hj => by omega), Lib.hid ⟨x7, by simp, B1.out⟩⟩
    case round =>
      obtain ⟨i, hi1, rfl, hZ, hW⟩ := hrel
      clear x0 x1 x2 x3 x4 x5 x6 x7 B1 HE HOK
      by_cases hlt : i < n
      · exact absurd hlt (by omega)
      · have qi : ¬ (i : Int) < (n : Int) := by omega
        have hin : i = n := by omega
        have Z2 := Lib.hid (HO2.out (fun k hk => by
          obtain ⟨j, hj⟩ := List.getElem?_of_mem hk
          obtain ⟨hj2, _⟩ := List.getElem?_eq_some_iff.mp hj
          exact hZ.out j k (by have := HN.out; omega) hj))
        clear hZ HO2
        go_wp2
        go_ret
        exact ⟨true, rfl, fun _ => Z2.out, hW.out.2.2⟩
end Go.Proofs.Ytkljagffccommaa
namespace Go.Proofs.Ytkljagffccommaa
open Go.RowKit
set_option maxRecDepth 100000 in
set_option maxHeartbeats 8000000 in
theorem right_2 (op : Int) (h8 : op = 2) (f : Nat → Bool) (lo hi : Int) (ks : List Tm) (d : TD) (w : World) (ht : TR w (.mk op f lo hi ks) d) (ih : ∀ k ∈ ks, ∀ (d : TD) (w : World), TR w k d → Calls Try.prog 36 #[d.val] w (Rgt w k)) : Calls Try.prog 36 #[d.val] w (Rgt w (.mk op f lo hi ks)) := by
  cases ht with
  | mk _ _ _ _ _ q A c ds hq hl hn hk hr =>
  obtain ⟨n, hnn⟩ : ∃ n, ks.length = n := ⟨_, rfl⟩
  rw [hnn] at hn ⊢
  have HE : ∀ W : World, (Op.equalIn 10000 26 (.agg #[.int .u64 (uv (q 0)), .int .u64 (uv (q 1)), .int .u64 (uv (q 2)), .int .u64 (uv (q 3))]) (.agg #[.int .u64 0, .int .u64 0, .int .u64 0, .int .u64 0])).run Try.prog W = .ok (eqK f noB) W := fun W => eqk_is hq isK_zero W
  have HOK : Hid ((1 ≤ op ∧ op ≤ 8) → (op < 6 → n = 0) → (op = 6 ∨ op = 7 → 2 ≤ n) → (op = 8 → n = 1 ∧ 0 ≤ lo ∧ lo ≤ 200 ∧ -1 ≤ hi ∧ hi ≤ 200 ∧ (0 ≤ hi → lo ≤ hi)) → (∀ k ∈ ks, Rt k) → Rt (.mk op f lo hi ks)) := fun a1 a2 a3 a4 b => .mk _ _ _ _ _ (by rw [hnn]; exact ⟨a1, a2, a3, a4⟩) b
  generalize eqK f noB = z at HE
  have IH := Lib.hid ih; have HK := Lib.hid hk; have HR := Lib.hid hr; have HL := Lib.hid hl; have HN := Lib.hid hnn
  have B1 := Lib.hid (below_new w (.cells #[.int .i64 op, .int .u64 (uv (q 0)), .int .u64 (uv (q 1)), .int .u64 (uv (q 2)), .int .u64 (uv (q 3)), .int .i64 lo, .int .i64 hi, .slice A n c] 29))
  obtain ⟨⟨x0, x1, x2, x3, x4, x5, x6, x7⟩, _⟩ := (TB.new w ⟨op, q, lo, hi, A, n, c⟩).all
  clear ih hk hr hl hnn hq
  unfold TD.val
  subst h8
  by_cases qn : (n : Int) = 0
  case neg =>
    cases z
    all_goals
      go_enter Try.func36, Try.ntmps36
      go_wp2
      all_goals (go_ret; exact ⟨false, rfl, (fun h => by cases h), B1.out⟩)
  by_cases hlo : lo = 0
  case neg =>
    cases z
    all_goals
      go_enter Try.func36, Try.ntmps36
      go_wp2
      all_goals (go_ret; exact ⟨false, rfl, (fun h => by cases h), B1.out⟩)
  subst hlo
  by_cases hhi : hi = 0
  case neg =>
    cases z
    all_goals
      go_enter Try.func36, Try.ntmps36
      go_wp2
      all_goals (go_ret; exact ⟨false, rfl, (fun h => by cases h), B1.out⟩)
  subst hhi
  cases z
  all_goals
    go_enter Try.func36, Try.ntmps36
    go_wp2_with fail
    all_goals (try (go_ret; exact ⟨false, rfl, (fun h => by cases h), B1.out⟩))
  all_goals
    have HO2 := Lib.hid (HOK.out ⟨by omega, by omega⟩ (fun _ => by omega) (fun _ => by omega) (fun _ => by omega))
    go_loopw [4] (fun v wr => ∃ (i : Nat), i ≤ n ∧ v = .int .i64 (i : Nat) ∧ Hid (∀ (j : Nat) (k : Tm), j < i → ks[j]? = some k → Rt k) ∧ Hid (wr.cell? ⟨w.heap.size, 7, none⟩ = some (.slice A n c) ∧ w.heap.size < wr.heap.size ∧ Below w.heap.size w wr)) (fun v _ => n - (intOf v).toNat)
    case atStart => exact ⟨0, Nat.zero_le _, rfl, Lib.hid (fun j k hj => by omega), Lib.hid ⟨x7, by simp, B1.out⟩⟩
    case round =>
      obtain ⟨i, hi1, rfl, hZ, hW⟩ := hrel
      clear x0 x1 x2 x3 x4 x5 x6 x7 B1 HE HOK
      by_cases hlt : i < n
      · exact absurd hlt (by omega)
      · have qi : ¬ (i : Int) < (n : Int) := by omega
        have hin : i = n := by omega
        have Z2 := Lib.hid (HO2.out (fun k hk => by
          obtain ⟨j, hj⟩ := List.getElem?_of_mem hk
          obtain ⟨hj2, _⟩ := List.getElem?_eq_some_iff.mp hj
          exact hZ.out j k (by have := HN.out; omega) hj))
        clear hZ HO2
        go_wp2
        go_ret
        exact ⟨true, rfl, fun _ => Z2.out, hW.out.2.2⟩
end Go.Proofs.Ytkljagffccommaa
namespace Go.Proofs.Ytkljagffccommaa
open Go.RowKit
set_option maxRecDepth 100000 in
set_option maxHeartbeats 8000000 in
theorem right_3 (op : Int) (h8 : op = 3) (f : Nat → Bool) (lo hi : Int) (ks : List Tm) (d : TD) (w : World) (ht : TR w (.mk op f lo hi ks) d) (ih : ∀ k ∈ ks, ∀ (d : TD) (w : World), TR w k d → Calls Try.prog 36 #[d.val] w (Rgt w k)) : Calls Try.prog 36 #[d.val] w (Rgt w (.mk op f lo hi ks)) := by
  cases ht with
  | mk _ _ _ _ _ q A c ds hq hl hn hk hr =>
  obtain ⟨n, hnn⟩ : ∃ n, ks.length = n := ⟨_, rfl⟩
  rw [hnn] at hn ⊢
  have HE : ∀ W : World, (Op.equalIn 10000 26 (.agg #[.int .u64 (uv (q 0)), .int .u64 (uv (q 1)), .int .u64 (uv (q 2)), .int .u64 (uv (q 3))]) (.agg #[.int .u64 0, .int .u64 0, .int .u64 0, .int .u64 0])).run Try.prog W = .ok (eqK f noB) W := fun W => eqk_is hq isK_zero W
  have HOK : Hid ((1 ≤ op ∧ op ≤ 8) → (op < 6 → n = 0) → (op = 6 ∨ op = 7 → 2 ≤ n) → (op = 8 → n = 1 ∧ 0 ≤ lo ∧ lo ≤ 200 ∧ -1 ≤ hi ∧ hi ≤ 200 ∧ (0 ≤ hi → lo ≤ hi)) → (∀ k ∈ ks, Rt k) → Rt (.mk op f lo hi ks)) := fun a1 a2 a3 a4 b => .mk _ _ _ _ _ (by rw [hnn]; exact ⟨a1, a2, a3, a4⟩) b
  generalize eqK f noB = z at HE
  have IH := Lib.hid ih; have HK := Lib.hid hk; have HR := Lib.hid hr; have HL := Lib.hid hl; have HN := Lib.hid hnn
  have B1 := Lib.hid (below_new w (.cells #[.int .i64 op, .int .u64 (uv (q 0)), .int .u64 (uv (q 1)), .int .u64 (uv (q 2)), .int .u64 (uv (q 3)), .int .i64 lo, .int .i64 hi, .slice A n c] 29))
  obtain ⟨⟨x0, x1, x2, x3, x4, x5, x6, x7⟩, _⟩ := (TB.new w ⟨op, q, lo, hi, A, n, c⟩).all
  clear ih hk hr hl hnn hq
  unfold TD.val
  subst h8
  by_cases qn : (n : Int) = 0
  case neg =>
    cases z
    all_goals
      go_enter Try.func36, Try.ntmps36
      go_wp2
      all_goals (go_ret; exact ⟨false, rfl, (fun h => by cases h), B1.out⟩)
  by_cases hlo : lo = 0
  case neg =>
    cases z
    all_goals
      go_enter Try.func36, Try.ntmps36
      go_wp2
      all_goals (go_ret; exact ⟨false, rfl, (fun h => by cases h), B1.out⟩)
  subst hlo
  by_cases hhi : hi = 0
  case neg =>
    cases z
    all_goals
      go_enter Try.func36, Try.ntmps36
      go_wp2
      all_goals (go_ret; exact ⟨false, rfl, (fun h => by cases h), B1.out⟩)
  subst hhi
  cases z
  all_goals
    go_enter Try.func36, Try.ntmps36
    go_wp2_with fail
    all_goals (try (go_ret; exact ⟨false, rfl, (fun h => by cases h), B1.out⟩))
  all_goals
    have HO2 := Lib.hid (HOK.out ⟨by omega, by omega⟩ (fun _ => by omega) (fun _ => by omega) (fun _ => by omega))
    go_loopw [4] (fun v wr => ∃ (i : Nat), i ≤ n ∧ v = .int .i64 (i : Nat) ∧ Hid (∀ (j : Nat) (k : Tm), j < i → ks[j]? = some k → Rt k) ∧ Hid (wr.cell? ⟨w.heap.size, 7, none⟩ = some (.slice A n c) ∧ w.heap.size < wr.heap.size ∧ Below w.heap.size w wr)) (fun v _ => n - (intOf v).toNat)
    case atStart => exact ⟨0, Nat.zero_le _, rfl, Lib.hid (fun j k hj => by omega), Lib.hid ⟨x7, by simp, B1.out⟩⟩
    case round =>
      obtain ⟨i, hi1, rfl, hZ, hW⟩ := hrel
      clear x0 x1 x2 x3 x4 x5 x6 x7 B1 HE HOK
      by_cases hlt : i < n
      · exact absurd hlt (by omega)
      · have qi : ¬ (i : Int) < (n : Int) := by omega
        have hin : i = n := by omega
        have Z2 := Lib.hid (HO2.out (fun k hk => by
          obtain ⟨j, hj⟩ := List.getElem?_of_mem hk
          obtain ⟨hj2, _⟩ := List.getElem?_eq_some_iff.mp hj
          exact hZ.out j k (by have := HN.out; omega) hj))
        clear hZ HO2
        go_wp2
        go_ret
        exact ⟨true, rfl, fun _ => Z2.out, hW.out.2.2⟩
end Go.Proofs.Ytkljagffccommaa
namespace Go.Proofs.Ytkljagffccommaa
open Go.RowKit
set_option maxRecDepth 100000 in
set_option maxHeartbeats 8000000 in
theorem right_4 (op : Int) (h8 : op = 4) (f : Nat → Bool) (lo hi : Int) (ks : List Tm) (d : TD) (w : World) (ht : TR w (.mk op f lo hi ks) d) (ih : ∀ k ∈ ks, ∀ (d : TD) (w : World), TR w k d → Calls Try.prog 36 #[d.val] w (Rgt w k)) : Calls Try.prog 36 #[d.val] w (Rgt w (.mk op f lo hi ks)) := by
  cases ht with
  | mk _ _ _ _ _ q A c ds hq hl hn hk hr =>
  obtain ⟨n, hnn⟩ : ∃ n, ks.length = n := ⟨_, rfl⟩
  rw [hnn] at hn ⊢
  have HE : ∀ W : World, (Op.equalIn 10000 26 (.agg #[.int .u64 (uv (q 0)), .int .u64 (uv (q 1)), .int .u64 (uv (q 2)), .int .u64 (uv (q 3))]) (.agg #[.int .u64 0, .int .u64 0, .int .u64 0, .int .u64 0])).run Try.prog W = .ok (eqK f noB) W := fun W => eqk_is hq isK_zero W
  have HOK : Hid ((1 ≤ op ∧ op ≤ 8) → (op < 6 → n = 0) → (op = 6 ∨ op = 7 → 2 ≤ n) → (op = 8 → n = 1 ∧ 0 ≤ lo ∧ lo ≤ 200 ∧ -1 ≤ hi ∧ hi ≤ 200 ∧ (0 ≤ hi → lo ≤ hi)) → (∀ k ∈ ks, Rt k) → Rt (.mk op f lo hi ks)) := fun a1 a2 a3 a4 b => .mk _ _ _ _ _ (by rw [hnn]; exact ⟨a1, a2, a3, a4⟩) b
  generalize eqK f noB = z at HE
  have IH := Lib.hid ih; have HK := Lib.hid hk; have HR := Lib.hid hr; have HL := Lib.hid hl; have HN := Lib.hid hnn
  have B1 := Lib.hid (below_new w (.cells #[.int .i64 op, .int .u64 (uv (q 0)), .int .u64 (uv (q 1)), .int .u64 (uv (q 2)), .int .u64 (uv (q 3)), .int .i64 lo, .int .i64 hi, .slice A n c] 29))
  obtain ⟨⟨x0, x1, x2, x3, x4, x5, x6, x7⟩, _⟩ := (TB.new w ⟨op, q, lo, hi, A, n, c⟩).all
  clear ih hk hr hl hnn hq
  unfold TD.val
  subst h8
  by_cases qn : (n : Int) = 0
  case neg =>
    cases z
    all_goals
      go_enter Try.func36, Try.ntmps36
      go_wp2
      all_goals (go_ret; exact ⟨false, rfl, (fun h => by cases h), B1.out⟩)
  by_cases hlo : lo = 0
  case neg =>
    cases z
    all_goals
      go_enter Try.func36, Try.ntmps36
      go_wp2
      all_goals (go_ret; exact ⟨false, rfl, (fun h => by cases h), B1.out⟩)
  subst hlo
  by_cases hhi : hi = 0
  case neg =>
    cases z
    all_goals
      go_enter Try.func36, Try.ntmps36
      go_wp2
      all_goals (go_ret; exact ⟨false, rfl, (fun h => by cases h), B1.out⟩)
  subst hhi
  cases z
  all_goals
    go_enter Try.func36, Try.ntmps36
    go_wp2_with fail
    all_goals (try (go_ret; exact ⟨false, rfl, (fun h => by cases h), B1.out⟩))
  all_goals
    have HO2 := Lib.hid (HOK.out ⟨by omega, by omega⟩ (fun _ => by omega) (fun _ => by omega) (fun _ => by omega))
    go_loopw [4] (fun v wr => ∃ (i : Nat), i ≤ n ∧ v = .int .i64 (i : Nat) ∧ Hid (∀ (j : Nat) (k : Tm), j < i → ks[j]? = some k → Rt k) ∧ Hid (wr.cell? ⟨w.heap.size, 7, none⟩ = some (.slice A n c) ∧ w.heap.size < wr.heap.size ∧ Below w.heap.size w wr)) (fun v _ => n - (intOf v).toNat)
    case atStart => exact ⟨0, Nat.zero_le _, rfl, Lib.hid (fun j k hj => by omega), Lib.hid ⟨x7, by simp, B1.out⟩⟩
    case round =>
      obtain ⟨i, hi1, rfl, hZ, hW⟩ := hrel
      clear x0 x1 x2 x3 x4 x5 x6 x7 B1 HE HOK
      by_cases hlt : i < n
      · exact absurd hlt (by omega)
      · have qi : ¬ (i : Int) < (n : Int) := by omega
        have hin : i = n := by omega
        have Z2 := Lib.hid (HO2.out (fun k hk => by
          obtain ⟨j, hj⟩ := List.getElem?_of_mem hk
          obtain ⟨hj2, _⟩ := List.getElem?_eq_some_iff.mp hj
          exact hZ.out j k (by have := HN.out; omega) hj))
        clear hZ HO2
        go_wp2
        go_ret
        exact ⟨true, rfl, fun _ => Z2.out, hW.out.2.2⟩
end Go.Proofs.Ytkljagffccommaa
namespace Go.Proofs.Ytkljagffccommaa
open Go.RowKit
set_option maxRecDepth 100000 in
set_option maxHeartbeats 8000000 in
theorem right_5 (op : Int) (h8 : op = 5) (f : Nat → Bool) (lo hi : Int) (ks : List Tm) (d : TD) (w : World) (ht : TR w (.mk op f lo hi ks) d) (ih : ∀ k ∈ ks, ∀ (d : TD) (w : World), TR w k d → Calls Try.prog 36 #[d.val] w (Rgt w k)) : Calls Try.prog 36 #[d.val] w (Rgt w (.mk op f lo hi ks)) := by
  cases ht with
  | mk _ _ _ _ _ q A c ds hq hl hn hk hr =>
  obtain ⟨n, hnn⟩ : ∃ n, ks.length = n := ⟨_, rfl⟩
  rw [hnn] at hn ⊢
  have HE : ∀ W : World, (Op.equalIn 10000 26 (.agg #[.int .u64 (uv (q 0)), .int .u64 (uv (q 1)), .int .u64 (uv (q 2)), .int .u64 (uv (q 3))]) (.agg #[.int .u64 0, .int .u64 0, .int .u64 0, .int .u64 0])).run Try.prog W = .ok (eqK f noB) W := fun W => eqk_is hq isK_zero W
  have HOK : Hid ((1 ≤ op ∧ op ≤ 8) → (op < 6 → n = 0) → (op = 6 ∨ op = 7 → 2 ≤ n) → (op = 8 → n = 1 ∧ 0 ≤ lo ∧ lo ≤ 200 ∧ -1 ≤ hi ∧ hi ≤ 200 ∧ (0 ≤ hi → lo ≤ hi)) → (∀ k ∈ ks, Rt k) → Rt (.mk op f lo hi ks)) := fun a1 a2 a3 a4 b => .mk _ _ _ _ _ (by rw [hnn]; exact ⟨a1, a2, a3, a4⟩) b
  generalize eqK f noB = z at HE
  have IH := Lib.hid ih; have HK := Lib.hid hk; have HR := Lib.hid hr; have HL := Lib.hid hl; have HN := Lib.hid hnn
  have B1 := Lib.hid (below_new w (.cells #[.int .i64 op, .int .u64 (uv (q 0)), .int .u64 (uv (q 1)), .int .u64 (uv (q 2)), .int .u64 (uv (q 3)), .int .i64 lo, .int .i64 hi, .slice A n c] 29))
  obtain ⟨⟨x0, x1, x2, x3, x4, x5, x6, x7⟩, _⟩ := (TB.new w ⟨op, q, lo, hi, A, n, c⟩).all
  clear ih hk hr hl hnn hq
  unfold TD.val
  subst h8
  by_cases qn : (n : Int) = 0
  case neg =>
    cases z
    all_goals
      go_enter Try.func36, Try.ntmps36
      go_wp2
      all_goals (go_ret; exact ⟨false, rfl, (fun h => by cases h), B1.out⟩)
  by_cases hlo : lo = 0
  case neg =>
    cases z
    all_goals
      go_enter Try.func36, Try.ntmps36
      go_wp2
      all_goals (go_ret; exact ⟨false, rfl, (fun h => by cases h), B1.out⟩)
  subst hlo
  by_cases hhi : hi = 0
  case neg =>
    cases z
    all_goals
      go_enter Try.func36, Try.ntmps36
      go_wp2
      all_goals (go_ret; exact ⟨false, rfl, (fun h => by cases h), B1.out⟩)
  subst hhi
  cases z
  all_goals
    go_enter Try.func36, Try.ntmps36
    go_wp2_with fail
    all_goals (try (go_ret; exact ⟨false, rfl, (fun h => by cases h), B1.out⟩))
  all_goals
    have HO2 := Lib.hid (HOK.out ⟨by omega, by omega⟩ (fun _ => by omega) (fun _ => by omega) (fun _ => by omega))
    go_loopw [4] (fun v wr => ∃ (i : Nat), i ≤ n ∧ v = .int .i64 (i : Nat) ∧ Hid (∀ (j : Nat) (k : Tm), j < i → ks[j]? = some k → Rt k) ∧ Hid (wr.cell? ⟨w.heap.size, 7, none⟩ = some (.slice A n c) ∧ w.heap.size < wr.heap.size ∧ Below w.heap.size w wr)) (fun v _ => n - (intOf v).toNat)
    case atStart => exact ⟨0, Nat.zero_le _, rfl, Lib.hid (fun j k hj => by omega), Lib.hid ⟨x7, by simp, B1.out⟩⟩
    case round =>
      obtain ⟨i, hi1, rfl, hZ, hW⟩ := hrel
      clear x0 x1 x2 x3 x4 x5 x6 x7 B1 HE HOK
      by_cases hlt : i < n
      · exact absurd hlt (by omega)
      · have qi : ¬ (i : Int) < (n : Int) := by omega
        have hin : i = n := by omega
        have Z2 := Lib.hid (HO2.out (fun k hk => by
          obtain ⟨j, hj⟩ := List.getElem?_of_mem hk
          obtain ⟨hj2, _⟩ := List.getElem?_eq_some_iff.mp hj
          exact hZ.out j k (by have := HN.out; omega) hj))
        clear hZ HO2
        go_wp2
        go_ret
        exact ⟨true, rfl, fun _ => Z2.out, hW.out.2.2⟩
end Go.Proofs.Ytkljagffccommaa
