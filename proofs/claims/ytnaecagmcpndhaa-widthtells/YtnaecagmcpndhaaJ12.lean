/- Right, every term. Right of the laws of width; small terms of terms. The document's numbers: cap, product, Positions, Anchored. The document's Anchored. What the walks of the laws of width have in common. -/
import Derived.Test.YtnaecagmcpndhaaJ10
import Derived.Test.YtnaecagmcpndhaaJ11
import Derived.Test.YtnaecagmcpndhaaX3
import Derived.Test.YtnaecagmcpndhaaJ14
namespace Go.Proofs.Ytnaecagmcpndhaa
open Go.RowKit
theorem right_any : ∀ (t : Tm) (d : TD) (w : World), TR w t d → Calls Try.prog 48 #[d.val] w (Rgt w t) := by
  intro t
  induction t using Tm.ind with
  | h op f lo hi ks ih =>
  intro d w ht
  by_cases ho : op < 1 ∨ 8 < op
  · exact right_out op ho f lo hi ks d w ht ih
  have h : op = 1 ∨ op = 2 ∨ op = 3 ∨ op = 4 ∨ op = 5 ∨ op = 6 ∨ op = 7 ∨ op = 8 := by omega
  rcases h with h | h | h | h | h | h | h | h
  · exact right_1 op h f lo hi ks d w ht ih
  · exact right_2 op h f lo hi ks d w ht ih
  · exact right_3 op h f lo hi ks d w ht ih
  · exact right_4 op h f lo hi ks d w ht ih
  · exact right_5 op h f lo hi ks d w ht ih
  · exact right_6 op h f lo hi ks d w ht ih
  · exact right_7 op h f lo hi ks d w ht ih
  · exact right_8 op h f lo hi ks d w ht ih
end Go.Proofs.Ytnaecagmcpndhaa
namespace Go.Proofs.Ytnaecagmcpndhaa
open Go.RowKit
theorem woL_mem : ∀ (ks : List Tm) (k : Tm), k ∈ ks → woT k ∈ woL ks
  | [], k, h => by simp at h
  | t :: ks, k, h => by
    rw [woL]
    rcases List.mem_cons.1 h with rfl | h
    · exact List.mem_cons_self
    · exact List.mem_cons_of_mem _ (woL_mem ks k h)
theorem Rt.facts {op : Int} {f : Nat → Bool} {lo hi : Int} {ks : List Tm} (h : Rt (.mk op f lo hi ks)) : (1 ≤ op ∧ op ≤ 8) ∧ (op < 6 → ks.length = 0) ∧ (op = 6 ∨ op = 7 → 2 ≤ ks.length) ∧ (op = 8 → ks.length = 1 ∧ 0 ≤ lo ∧ lo ≤ 200 ∧ -1 ≤ hi ∧ hi ≤ 200 ∧ (0 ≤ hi → lo ≤ hi)) := by cases h with | mk _ _ _ _ _ h _ => exact h
theorem Rt.kid {op : Int} {f : Nat → Bool} {lo hi : Int} {ks : List Tm} (h : Rt (.mk op f lo hi ks)) {k : Tm} (hk : k ∈ ks) : Rt k := by cases h with | mk _ _ _ _ _ _ h => exact h k hk
theorem Rt.ok (t : Tm) (h : Rt (woT t)) : Ok t := by
  induction t using Tm.ind with
  | h op f lo hi ks ih =>
    by_cases h9 : op = 9
    · rw [woT, if_pos h9] at h
      have h0 : ks = [] := List.eq_nil_of_length_eq_zero (h.facts.2.1 (by omega))
      subst h0
      exact .mk _ _ _ _ _ (fun e => by omega) (fun k hk => by simp at hk)
    · rw [woT, if_neg h9] at h
      refine .mk _ _ _ _ _ (fun e => ?_) (fun k hk => ih k hk (h.kid (woL_mem ks k hk)))
      have := h.facts.2.2.2 e
      omega
set_option maxRecDepth 100000 in
theorem right7_any (t : Tm) (d : TD) (w : World) (ht : TR w t d) (hf : Few t) : Calls Try.prog 25 #[d.val] w (fun e w' => ∃ b : Bool, e = .returned (.bool b) ∧ (b = true → Rt (woT t)) ∧ Below w.heap.size w w') := by
  have nb := below_new w (.cells d.cells 29)
  have h1 := (ht.keeps nb).inS
  have D1 := Lib.hid (without_any t d (w.alloc (.cells d.cells 29)).heap.size _ (Nat.le_refl _) h1 hf)
  have B1 := Lib.hid nb
  obtain ⟨⟨x0, x1, x2, x3, x4, x5, x6, x7⟩, _⟩ := (TB.new w d).all
  clear nb h1
  unfold TD.val TD.cells at *
  go_enter Try.func25, Try.ntmps25
  go_wp2_with fail
  refine D1.out.mono ?_
  rintro e w2 ⟨d2, rfl, hv2, hb2⟩
  have B2 := Lib.hid (B1.out.trans (hb2.mono B1.out.size))
  have D2 := Lib.hid (right_any (woT t) d2 w2 hv2.tr)
  clear D1 B1 hb2 hv2 x0 x1 x2 x3 x4 x5 x6 x7
  unfold TD.val at *
  go_wp2_with fail
  refine D2.out.mono ?_
  rintro e w3 ⟨b, rfl, hb, hb3⟩
  have H := Lib.hid hb
  have B3 := Lib.hid (B2.out.trans (hb3.mono B2.out.size))
  clear D2 B2 hb3 hb
  go_wp2
  go_ret
  exact ⟨b, rfl, H.out, B3.out⟩
theorem isK0 : IsK noB (fun _ => 0#64) := isK_zero
/-- a term of one kid -/
theorem TR.one {w : World} {t : Tm} {d : TD} {b : Nat} (h : TR w t d) (hb : TB w b d) (op lo hi : Int) : TR w (.mk op noB lo hi [t]) ⟨op, fun _ => 0#64, lo, hi, some ⟨b, 0, none⟩, 1, 1⟩ := by
  refine .mk op noB lo hi [t] _ _ 1 [d] isK0 rfl (by simp) (fun i t' d' h1 h2 => ?_) fun _ => ⟨b, 0, rfl, hb.lt, fun i d' h1 j hj => ?_⟩
  · cases i with
    | zero => simp at h1 h2; subst h1; subst h2; exact h
    | succ i => simp at h1
  · cases i with
    | zero =>
      simp at h1; subst h1
      rw [cell_of_row w b _ _ 29 (0, 0) hb]
      simp
    | succ i => simp at h1
/-- a term of two kids -/
theorem TR.pair {w : World} {t u : Tm} {d e : TD} {b : Nat} (h : TR w t d) (h' : TR w u e) (hb : w.heap[b]? = some (.cells (d.cells ++ e.cells) 29 (0, 0))) (op lo hi : Int) : TR w (.mk op noB lo hi [t, u]) ⟨op, fun _ => 0#64, lo, hi, some ⟨b, 0, none⟩, 2, 2⟩ := by
  have hlt : b < w.heap.size := by
    rcases Nat.lt_or_ge b w.heap.size with h | h
    · exact h
    · rw [Array.getElem?_eq_none h] at hb; cases hb
  refine .mk op noB lo hi [t, u] _ _ 2 [d, e] isK0 rfl (by simp) (fun i t' d' h1 h2 => ?_) fun _ => ⟨b, 0, rfl, hlt, fun i d' h1 j hj => ?_⟩
  · match i with
    | 0 => simp at h1 h2; subst h1; subst h2; exact h
    | 1 => simp at h1 h2; subst h1; subst h2; exact h'
    | i + 2 => simp at h1
  · have hd : d.cells.size = 8 := rfl
    match i with
    | 0 =>
      simp at h1; subst h1
      rw [cell_of_row w b _ _ 29 (0, 0) hb, Array.getElem?_append_left (by omega)]
      simp
    | 1 =>
      simp at h1; subst h1
      rw [cell_of_row w b _ _ 29 (0, 0) hb, Array.getElem?_append_right (by omega), hd]
      congr 1
      omega
    | i + 2 => simp at h1
end Go.Proofs.Ytnaecagmcpndhaa
namespace Go.Proofs.Ytnaecagmcpndhaa
open Go.RowKit
theorem cap_any (a b : Int) (w : World) (ha : Sm a) (hb : Sm b) : Calls Try.prog 53 #[.int .i64 (a + b)] w fun e w' => e = .returned (.int .i64 (plusF a b)) ∧ w = w' := by
  unfold Sm at ha hb
  unfold plusF
  by_cases h : a + b ≤ 1099511627776
  · rw [if_pos h]
    go_enter Try.func53, Try.ntmps53
    go_wp2
    go_ret
    exact ⟨rfl, rfl⟩
  · rw [if_neg h]
    go_enter Try.func53, Try.ntmps53
    go_wp2
    go_ret
    exact ⟨rfl, rfl⟩
/-- of a number of times and a number -/
theorem product_any (b a : Int) (w : World) (ha : Sm a) (hb : 0 ≤ b ∧ b ≤ 200) : Calls Try.prog 54 #[.int .i64 b, .int .i64 a] w fun e w' => e = .returned (.int .i64 (timesF a b)) ∧ w = w' := by
  unfold Sm at ha
  have hn := Int.mul_nonneg hb.1 ha.1
  have h4 : b * a ≤ 200 * 1099511627776 := Int.mul_le_mul hb.2 ha.2 ha.1 (by omega)
  have ec : a * b = b * a := Int.mul_comm a b
  by_cases h0 : b = 0
  · subst h0
    have R : Hid (timesF a 0 = 0) := by show timesF a 0 = 0; unfold timesF; rw [if_pos (by omega)]; omega
    clear hn h4 ec
    go_enter Try.func54, Try.ntmps54
    go_wp2
    go_ret
    rw [R.out]
    exact ⟨by simp, rfl⟩
  · have q0 : 0 < b := by omega
    have key := Int.le_ediv_iff_mul_le (a := a) (b := 1099511627776) (c := b) q0
    have ec2 : a * b = b * a := ec
    by_cases hq : a ≤ 1099511627776 / b
    · have h1 := key.1 hq
      have q1 : ¬ 1099511627776 / b < a := by omega
      have q2 : wrap64 (b * a) = b * a := by rw [← wrapEq]; exact IntWalk.i64_in _ (by omega)
      have R : Hid (timesF a b = b * a) := by show timesF a b = _; unfold timesF; rw [if_pos (by omega)]; omega
      clear key h1 ec ec2 hn h4
      go_enter Try.func54, Try.ntmps54
      go_wp2
      go_ret
      rw [R.out]
      exact ⟨rfl, rfl⟩
    · have q1 : 1099511627776 / b < a := by omega
      have R : Hid (timesF a b = 1099511627776) := by show timesF a b = _; unfold timesF; rw [if_neg (fun h => hq (key.2 (by omega)))]
      clear key ec ec2 hn h4 hq
      go_enter Try.func54, Try.ntmps54
      go_wp2
      go_ret
      rw [R.out]
      exact ⟨rfl, rfl⟩
set_option maxRecDepth 100000 in
set_option maxHeartbeats 2000000 in
theorem posref_any : ∀ (t : Tm) (d : TD) (w : World), TR w t d → Ok t → Calls Try.prog 27 #[d.val] w (Tells w (.int .i64 (posT t))) := by
  intro t
  induction t using Tm.ind with
  | h op f lo hi ks ih =>
  intro d w ht hok
  cases ht with
  | mk _ _ _ _ _ q A c ds hq hl hn hk hr =>
  obtain ⟨n, hnn⟩ : ∃ n, ks.length = n := ⟨_, rfl⟩
  rw [hnn] at hn ⊢
  have T1 : Hid (TB (w.alloc (.cells #[.int .i64 op, .int .u64 (uv (q 0)), .int .u64 (uv (q 1)), .int .u64 (uv (q 2)), .int .u64 (uv (q 3)), .int .i64 lo, .int .i64 hi, .slice A n c] 29)) w.heap.size ⟨op, q, lo, hi, A, n, c⟩) := TB.new w ⟨op, q, lo, hi, A, n, c⟩
  have B1 : Hid (Below w.heap.size w (w.alloc (.cells #[.int .i64 op, .int .u64 (uv (q 0)), .int .u64 (uv (q 1)), .int .u64 (uv (q 2)), .int .u64 (uv (q 3)), .int .i64 lo, .int .i64 hi, .slice A n c] 29))) := below_new w _
  obtain ⟨⟨x0, x1, x2, x3, x4, x5, x6, x7⟩, _⟩ := T1.out.all
  unfold TD.val
  by_cases h2 : op = 2
  · subst h2
    have R : Hid (posT (.mk 2 f lo hi ks) = 1) := by show posT _ = 1; rw [posT, if_pos (.inl rfl)]
    clear ih hk hr hok
    rw [R.out]
    go_enter Try.func27, Try.ntmps27
    go_wp2
    go_ret
    exact ⟨rfl, B1.out⟩
  have q2 : (op == 2) = false := by rw [beq_eq_false_iff_ne]; exact h2
  by_cases h3 : op = 3
  · subst h3
    have R : Hid (posT (.mk 3 f lo hi ks) = 1) := by show posT _ = 1; rw [posT, if_pos (.inr rfl)]
    clear ih hk hr hok
    rw [R.out]
    go_enter Try.func27, Try.ntmps27
    go_wp2
    go_ret
    exact ⟨rfl, B1.out⟩
  have q3 : (op == 3) = false := by rw [beq_eq_false_iff_ne]; exact h3
  have R : Hid (posT (.mk op f lo hi ks) = if op = 8 then timesF (posL ks 0) (copiesF lo hi) else posL ks 0) := by show posT _ = _; rw [posT, if_neg (by rintro (h | h); exact h2 h; exact h3 h)]
  have SL := Lib.hid (posL_sm ks 0 (fun k hk => posT_sm k (hok.kid hk)) sm0)
  have IH := Lib.hid ih; have HK := Lib.hid hk; have HR := Lib.hid hr; have HL := Lib.hid hl; have OK := Lib.hid hok; have HN := Lib.hid hnn
  clear ih hk hr hl hnn hok h2 h3
  go_enter Try.func27, Try.ntmps27
  go_wp2_with fail
  go_loopw [3, 4] (fun u v wr => ∃ (i : Nat) (z : Int), i ≤ n ∧ u = .int .i64 z ∧ v = .int .i64 (i : Nat) ∧ Hid (Sm z ∧ posL (ks.drop i) z = posL ks 0) ∧ Hid (TB wr w.heap.size ⟨op, q, lo, hi, A, n, c⟩ ∧ Below w.heap.size w wr)) (fun _ v _ => n - (intOf v).toNat)
  case atStart => exact ⟨0, 0, Nat.zero_le _, rfl, rfl, ⟨sm0, by rw [List.drop_zero]⟩, ⟨T1.out, B1.out⟩⟩
  case round =>
    obtain ⟨i, z, hi1, rfl, rfl, hZ, hW⟩ := hrel
    clear T1 B1 x0 x1 x2 x3 x4 x5 x6 x7
    by_cases hlt : i < n
    · have qi : (i : Int) < (n : Int) := by omega
      have hi2 : i < ks.length := by have := HN.out; omega
      have hi4 : i < ds.length := by have h1 := HL.out; omega
      obtain ⟨kb1, off1, rfl, hb1, hc1⟩ := HR.out (by omega)
      obtain ⟨a0, a1, a2, a3, a4, a5, a6, a7⟩ := kid_cells hW.out.2 hb1 hc1 (List.getElem?_eq_getElem hi4)
      have k1 := (HK.out i _ _ (List.getElem?_eq_getElem hi2) (List.getElem?_eq_getElem hi4)).keeps hW.out.2
      have okk := OK.out.kid (List.getElem_mem hi2)
      have zz : posL (ks.drop (i + 1)) (plusF z (posT ks[i])) = posL ks 0 := by rw [← hZ.out.2, List.drop_eq_getElem_cons hi2, posL]
      have hm := List.getElem_mem hi2
      generalize ks[i] = kt at *
      generalize ds[i] = dt at *
      have D1 := Lib.hid (IH.out kt hm dt _ k1 okk)
      have D2 := Lib.hid fun W => cap_any z (posT kt) W hZ.out.1 (posT_sm kt okk)
      have Z2 : Hid (Sm (plusF z (posT kt)) ∧ posL (ks.drop (i + 1)) (plusF z (posT kt)) = posL ks 0) := ⟨plusF_sm hZ.out.1 (posT_sm kt okk), zz⟩
      have q9 : IntKind.i64.wrap (z + posT kt) = z + posT kt := by have h1 := hZ.out.1; have h2 := posT_sm kt okk; unfold Sm at h1 h2; exact IntWalk.i64_in _ (by omega)
      have W2 := hW
      obtain ⟨⟨x0, x1, x2, x3, x4, x5, x6, x7⟩, -⟩ := hW.out.1.all
      have kbl : kb1 < wr.heap.size := Nat.lt_of_lt_of_le hb1 hW.out.2.size
      have q6 : IntKind.i64.wrap ((i : Int) + 1) = ((i + 1 : Nat) : Int) := by rw [IntWalk.i64_in _ (by omega)]; omega
      clear hc1 k1 hi2 hi4 hb1 zz hm okk hZ hW
      unfold TD.val at D1
      go_wp2_with fail
      refine D1.out.mono ?_
      rintro e w5 ⟨rfl, hb5⟩
      have W5 : Hid (TB w5 w.heap.size ⟨op, q, lo, hi, some ⟨kb1, off1, none⟩, n, c⟩ ∧ Below w.heap.size w w5) := ⟨W2.out.1.below hb5, W2.out.2.trans (hb5.mono W2.out.2.size)⟩
      clear D1 W2 hb5 a0 a1 a2 a3 a4 a5 a6 a7 kbl x0 x1 x2 x3 x4 x5 x6 x7
      go_wp2_with fail
      refine (D2.out _).mono ?_
      rintro e w6 ⟨rfl, rfl⟩
      clear D2
      go_wp2_with fail
      go_roundw
      case rel => exact ⟨i + 1, _, by omega, rfl, by simp, Z2, W5⟩
      case measure => simp [intOf]; omega
    · have hin : i = n := by omega
      have ez : z = posL ks 0 := by rw [← hZ.out.2, List.drop_eq_nil_of_le (by have := HN.out; omega), posL]
      subst ez
      obtain ⟨⟨x0, x1, x2, x3, x4, x5, x6, x7⟩, _⟩ := hW.out.1.all
      have qi : ¬ (i : Int) < (n : Int) := by omega
      by_cases h8 : op = 8
      · subst h8
        have hnum := OK.out.num rfl
        have hcf : 0 ≤ copiesF lo hi ∧ copiesF lo hi ≤ 200 := by unfold copiesF; split <;> (try split) <;> omega
        have R2 : Hid (posT (.mk 8 f lo hi ks) = timesF (posL ks 0) (copiesF lo hi)) := by show posT _ = _; rw [R.out, if_pos rfl]
        have D4 := Lib.hid fun W => product_any (copiesF lo hi) (posL ks 0) W SL.out hcf
        have hc : (hi < 0 ∧ lo = 0 ∧ copiesF lo hi = 1) ∨ (hi < 0 ∧ ¬ lo = 0 ∧ copiesF lo hi = lo) ∨ (¬ hi < 0 ∧ copiesF lo hi = hi) := by
          unfold copiesF
          by_cases h1 : hi = -1
          · rw [if_pos h1]
            by_cases h2 : lo = 0
            · rw [if_pos h2]; exact .inl ⟨by omega, h2, rfl⟩
            · rw [if_neg h2]; exact .inr (.inl ⟨by omega, h2, rfl⟩)
          · rw [if_neg h1]; exact .inr (.inr ⟨by omega, rfl⟩)
        clear R hnum hcf hin hZ
        generalize posL ks 0 = zl at *
        generalize copiesF lo hi = cf at *
        rcases hc with ⟨c1, c2, c3⟩ | ⟨c1, c2, c3⟩ | ⟨c1, c3⟩
        · subst c2; subst c3
          go_wp2_with fail
          refine (D4.out _).mono ?_
          rintro e w6 ⟨rfl, rfl⟩
          clear D4
          go_wp2
          go_ret
          rw [R2.out]
          exact ⟨rfl, hW.out.2⟩
        · subst c3
          have c4 : (cf == 0) = false := by rw [beq_eq_false_iff_ne]; exact c2
          go_wp2_with fail
          refine (D4.out _).mono ?_
          rintro e w6 ⟨rfl, rfl⟩
          clear D4
          go_wp2
          go_ret
          rw [R2.out]
          exact ⟨rfl, hW.out.2⟩
        · subst c3
          go_wp2_with fail
          refine (D4.out _).mono ?_
          rintro e w6 ⟨rfl, rfl⟩
          clear D4
          go_wp2
          go_ret
          rw [R2.out]
          exact ⟨rfl, hW.out.2⟩
      · have q8 : (op == 8) = false := by rw [beq_eq_false_iff_ne]; exact h8
        have R2 : Hid (posT (.mk op f lo hi ks) = posL ks 0) := by show posT _ = _; rw [R.out, if_neg h8]
        clear R hin hZ
        generalize posL ks 0 = zl at *
        go_wp2
        go_ret
        rw [R2.out]
        exact ⟨rfl, hW.out.2⟩
end Go.Proofs.Ytnaecagmcpndhaa
namespace Go.Proofs.Ytnaecagmcpndhaa
open Go.RowKit
set_option maxRecDepth 100000 in
set_option maxHeartbeats 2000000 in
theorem ancref_any : ∀ (t : Tm) (d : TD) (w : World), TR w t d → Calls Try.prog 28 #[d.val] w (Tells w (.bool (ancT t))) := by
  intro t
  induction t using Tm.ind with
  | h op f lo hi ks ih =>
  intro d w ht
  cases ht with
  | mk _ _ _ _ _ q A c ds hq hl hn hk hr =>
  obtain ⟨n, hnn⟩ : ∃ n, ks.length = n := ⟨_, rfl⟩
  rw [hnn] at hn ⊢
  have T1 : Hid (TB (w.alloc (.cells #[.int .i64 op, .int .u64 (uv (q 0)), .int .u64 (uv (q 1)), .int .u64 (uv (q 2)), .int .u64 (uv (q 3)), .int .i64 lo, .int .i64 hi, .slice A n c] 29)) w.heap.size ⟨op, q, lo, hi, A, n, c⟩) := TB.new w ⟨op, q, lo, hi, A, n, c⟩
  have B1 : Hid (Below w.heap.size w (w.alloc (.cells #[.int .i64 op, .int .u64 (uv (q 0)), .int .u64 (uv (q 1)), .int .u64 (uv (q 2)), .int .u64 (uv (q 3)), .int .i64 lo, .int .i64 hi, .slice A n c] 29))) := below_new w _
  obtain ⟨⟨x0, x1, x2, x3, x4, x5, x6, x7⟩, -⟩ := T1.out.all
  have R : Hid (ancT (.mk op f lo hi ks) = ((op == 4) || ((op == 5) || ancL ks))) := by show ancT _ = _; rw [ancT]
  have IH := Lib.hid ih; have HK := Lib.hid hk; have HR := Lib.hid hr; have HL := Lib.hid hl; have HN := Lib.hid hnn
  clear ih hk hr hl hnn
  unfold TD.val
  go_enter Try.func28, Try.ntmps28
  go_wp2_with fail
  go_loopw [3] (fun v wr => ∃ (i : Nat), i ≤ n ∧ v = .int .i64 (i : Nat) ∧ Hid (ancL (ks.drop i) = ancL ks) ∧ Hid (TB wr w.heap.size ⟨op, q, lo, hi, A, n, c⟩ ∧ Below w.heap.size w wr)) (fun v _ => n - (intOf v).toNat)
  case atStart => exact ⟨0, Nat.zero_le _, rfl, (by show ancL (ks.drop 0) = _; rw [List.drop_zero]), ⟨T1.out, B1.out⟩⟩
  case round =>
    obtain ⟨i, hi1, rfl, hZ, hW⟩ := hrel
    clear T1 B1 x0 x1 x2 x3 x4 x5 x6 x7
    by_cases hlt : i < n
    · have qi : (i : Int) < (n : Int) := by omega
      have hi2 : i < ks.length := by have := HN.out; omega
      have hi4 : i < ds.length := by have h1 := HL.out; omega
      obtain ⟨kb1, off1, rfl, hb1, hc1⟩ := HR.out (by omega)
      obtain ⟨a0, a1, a2, a3, a4, a5, a6, a7⟩ := kid_cells hW.out.2 hb1 hc1 (List.getElem?_eq_getElem hi4)
      obtain ⟨⟨x0, x1, x2, x3, x4, x5, x6, x7⟩, -⟩ := hW.out.1.all
      have k1 := (HK.out i _ _ (List.getElem?_eq_getElem hi2) (List.getElem?_eq_getElem hi4)).keeps hW.out.2
      have zz : Hid (ancL ks = (ancT ks[i] || ancL (ks.drop (i + 1)))) := by show ancL ks = _; rw [← hZ.out, List.drop_eq_getElem_cons hi2, ancL]
      have hm := List.getElem_mem hi2
      generalize ks[i] = kt at *
      generalize ds[i] = dt at *
      have D1 := Lib.hid (IH.out kt hm dt _ k1)
      have kbl : kb1 < wr.heap.size := Nat.lt_of_lt_of_le hb1 hW.out.2.size
      have q6 : IntKind.i64.wrap ((i : Int) + 1) = ((i + 1 : Nat) : Int) := by rw [IntWalk.i64_in _ (by omega)]; omega
      clear hc1 k1 hi2 hi4 hb1 hm hZ
      generalize ancT kt = b at *
      unfold TD.val at D1
      go_wp2_with fail
      refine D1.out.mono ?_
      rintro e w5 ⟨rfl, hb5⟩
      have W5 : Hid (TB w5 w.heap.size ⟨op, q, lo, hi, some ⟨kb1, off1, none⟩, n, c⟩ ∧ Below w.heap.size w w5) := ⟨hW.out.1.below hb5, hW.out.2.trans (hb5.mono hW.out.2.size)⟩
      clear D1 hW hb5 a0 a1 a2 a3 a4 a5 a6 a7 kbl x0 x1 x2 x3 x4 x5 x6 x7
      cases b
      · have Z2 : Hid (ancL (ks.drop (i + 1)) = ancL ks) := by show _ = _; rw [zz.out]; simp
        clear zz
        go_wp2_with fail
        go_roundw
        case rel => exact ⟨i + 1, by omega, by simp, Z2, W5⟩
        case measure => simp [intOf]; omega
      · have Z2 : Hid (ancT (.mk op f lo hi ks) = true) := by show _ = _; rw [R.out, zz.out]; cases (op == 4) <;> cases (op == 5) <;> rfl
        clear zz R
        go_wp2
        go_ret
        rw [Z2.out]
        exact ⟨rfl, W5.out.2⟩
    · have qi : ¬ (i : Int) < (n : Int) := by omega
      have e0 : ancL ks = false := by rw [← hZ.out, List.drop_eq_nil_of_le (by have := HN.out; omega), ancL]
      obtain ⟨⟨x0, x1, x2, x3, x4, x5, x6, x7⟩, -⟩ := hW.out.1.all
      have R2 : Hid (ancT (.mk op f lo hi ks) = ((op == 4) || (op == 5))) := by show _ = _; rw [R.out, e0, Bool.or_false]
      clear e0 hZ R
      by_cases h4 : op = 4
      · subst h4
        go_wp2
        go_ret
        rw [R2.out]
        exact ⟨rfl, hW.out.2⟩
      · have q4 : (op == 4) = false := by rw [beq_eq_false_iff_ne]; exact h4
        by_cases h5 : op = 5
        · subst h5
          go_wp2
          go_ret
          rw [R2.out]
          exact ⟨rfl, hW.out.2⟩
        · have q5 : (op == 5) = false := by rw [beq_eq_false_iff_ne]; exact h5
          have R3 : Hid (((op == 4) || (op == 5)) = false) := by show _ = _; rw [q4, q5]; rfl
          go_wp2
          go_ret
          rw [R2.out, R3.out]
          exact ⟨rfl, hW.out.2⟩
end Go.Proofs.Ytnaecagmcpndhaa
namespace Go.Proofs.Ytnaecagmcpndhaa
open Go.RowKit
/-- a law's argument, and what is known of it -/
structure Cx (w wr : World) (b : Nat) (t : Tm) (d : TD) : Prop where
  bel : Below w.heap.size w wr
  tr : TR wr t d
  tb : TB wr b d
theorem Cx.to {w wr w' : World} {b : Nat} {t : Tm} {d : TD} (h : Cx w wr b t d) (hb : Below wr.heap.size wr w') : Cx w w' b t d := ⟨h.bel.trans (hb.mono h.bel.size), h.tr.keeps hb, h.tb.below hb⟩
theorem ok_one {t : Tm} (lo hi : Int) (h : Ok t) (h1 : (0 ≤ lo ∧ lo ≤ 200) ∧ (-1 ≤ hi ∧ hi ≤ 200)) : Ok (.mk 8 noB lo hi [t]) := .mk _ _ _ _ _ (fun _ => h1) (fun k hk => by simp at hk; rw [hk]; exact h)
theorem span_one (t : Tm) (lo hi : Int) : spanT (.mk 8 noB lo hi [t]) = repeatF (spanT t) lo hi := by rw [spanT]; simp [repX]
theorem span_star (t : Tm) : ∃ M, spanT (.mk 8 noB 0 (-1) [t]) = ⟨0, M, true⟩ ∧ (((spanT t).a = false ∧ M = 0) ∨ ((spanT t).a = true ∧ (spanT t).m = 0 ∧ M = 0) ∨ ((spanT t).a = true ∧ ¬ (spanT t).m = 0 ∧ M = -1)) := by
  rw [span_one]
  generalize spanT t = x
  obtain ⟨l, m, a⟩ := x
  cases a
  · exact ⟨0, by simp [repeatF], .inl ⟨rfl, rfl⟩⟩
  · by_cases hm : m = 0
    · exact ⟨0, by simp [repeatF, timesF, hm], .inr (.inl ⟨rfl, hm, rfl⟩)⟩
    · exact ⟨-1, by simp [repeatF, timesF, mostF, hm], .inr (.inr ⟨rfl, hm, rfl⟩)⟩
theorem pos_one (t : Tm) (lo hi : Int) (h : Ok t) : posT (.mk 8 noB lo hi [t]) = timesF (posT t) (copiesF lo hi) := by
  have hs := posT_sm t h
  have e : plusF 0 (posT t) = posT t := by unfold Sm at hs; unfold plusF; rw [if_pos (by omega)]; omega
  rw [posT]
  simp [posL, e]
theorem pos_star (t : Tm) (h : Ok t) : posT (.mk 8 noB 0 (-1) [t]) = posT t := by
  have hs := posT_sm t h
  rw [pos_one t _ _ h]
  unfold Sm at hs
  simp [copiesF, timesF]
  omega
theorem anc_one (t : Tm) (lo hi : Int) : ancT (.mk 8 noB lo hi [t]) = ancT t := by
  rw [ancT]
  simp [ancL]
/-- two terms that lie there -/
def Bo (w : World) (b b' : Nat) (t u : Tm) (d e : TD) (W : World) : Prop := Cx w W b t d ∧ Cx w W b' u e
theorem step_bo {w W w' : World} {b b' : Nat} {t u : Tm} {d e : TD} (h : Hid (Bo w b b' t u d e W)) (hb : Below W.heap.size W w') : Hid (Bo w b b' t u d e w') := ⟨h.out.1.to hb, h.out.2.to hb⟩
theorem span_no (t : Tm) (h : (spanT t).a = false) : (spanT t).l = 0 ∧ (spanT t).m = 0 := by
  suffices H : (spanT t).a = false → spanT t = ⟨0, 0, false⟩ by rw [H h]; exact ⟨rfl, rfl⟩
  clear h
  induction t using Tm.ind with
  | h op f lo hi ks ih =>
    have hc : ∀ (l : List Tm) (x : Ex), (∀ k ∈ l, (spanT k).a = false → spanT k = ⟨0, 0, false⟩) → (x.a = false → x = ⟨0, 0, false⟩) → (catX l x).a = false → catX l x = ⟨0, 0, false⟩ := by
      intro l
      induction l with
      | nil => intro x _ hx; rw [catX]; exact hx
      | cons k r ihl =>
        intro x hk hx
        rw [catX]
        refine ihl _ (fun y hy => hk y (by simp [hy])) ?_
        unfold thenF
        split
        · intro h; cases h
        · intro _; rfl
    have ha : ∀ (l : List Tm) (x : Ex), (∀ k ∈ l, (spanT k).a = false → spanT k = ⟨0, 0, false⟩) → (x.a = false → x = ⟨0, 0, false⟩) → (altX l x).a = false → altX l x = ⟨0, 0, false⟩ := by
      intro l
      induction l with
      | nil => intro x _ hx; rw [altX]; exact hx
      | cons k r ihl =>
        intro x hk hx
        rw [altX]
        refine ihl _ (fun y hy => hk y (by simp [hy])) ?_
        unfold orF
        split
        · split
          · intro h; cases h
          · exact hx
        · exact hk k (by simp)
    rw [spanT]
    split
    · intro h; cases h
    split
    · intro h; cases h
    split
    · split
      · intro _; rfl
      · intro h; cases h
    split
    · exact hc ks _ ih (fun h => by cases h)
    split
    · exact ha ks _ ih (fun _ => rfl)
    split
    · match ks with
      | [] => intro _; rw [repX]; simp
      | [k] =>
        rw [repX]
        unfold repeatF
        split
        · intro h; cases h
        · intro h
          have h' : decide (lo = 0) = false := h
          rw [h']
      | _ :: _ :: _ => intro _; rw [repX]; simp
    · intro _; rfl
end Go.Proofs.Ytnaecagmcpndhaa
