/- Walks over the lanes package and its reference: Top, Up, Store. -/
import Derived.Test.YthohifibkhdmpaaL4
namespace Go.Proofs.Ythohifibkhdmpaa
open Go.RowKit

/-- the number of n bits -/
def w2 (f : Nat → Nat) : Nat → Nat
  | 0 => 0
  | k + 1 => w2 f k + f k * 2 ^ k
theorem w2_lt {f : Nat → Nat} {n : Nat} (h : ∀ k, k < n → f k < 2) : w2 f n < 2 ^ n := by
  induction n with
  | zero => simp [w2]
  | succ n ih =>
    have i1 := ih fun k hk => h k (by omega)
    have i2 := h n (by omega)
    have i3 : f n * 2 ^ n ≤ 1 * 2 ^ n := Nat.mul_le_mul_right _ (by omega)
    rw [w2, Nat.pow_succ]
    omega
theorem w2_mod {f : Nat → Nat} {n k : Nat} (h : ∀ k, k < n → f k < 2) (hk : k ≤ n) : w2 f n % 2 ^ k = w2 f k := by
  induction n with
  | zero => obtain rfl : k = 0 := by omega
            simp [w2, Nat.mod_one]
  | succ n ih =>
    by_cases e : k = n + 1
    · subst e; exact Nat.mod_eq_of_lt (w2_lt h)
    · rw [w2]
      obtain ⟨d, rfl⟩ : ∃ d, n = k + d := ⟨n - k, by omega⟩
      rw [Nat.pow_add, show f (k + d) * (2 ^ k * 2 ^ d) = 2 ^ k * (f (k + d) * 2 ^ d) by rw [Nat.mul_left_comm], Nat.add_mul_mod_self_left]
      exact ih (fun j hj => h j (by omega)) (by omega)
theorem bit_w2 {f : Nat → Nat} {n k : Nat} (h : ∀ k, k < n → f k < 2) (hk : k < n) : w2 f n / 2 ^ k % 2 = f k := by
  have e := w2_mod (k := k + 1) h (by omega)
  have e2 : w2 f n / 2 ^ k % 2 = w2 f n % 2 ^ (k + 1) / 2 ^ k := by
    rw [Nat.pow_succ, Nat.mod_mul_right_div_self]
  have l1 := w2_lt (n := k) fun j hj => h j (by omega)
  rw [e2, e, w2, Nat.add_mul_div_right _ _ (Nat.pow_pos (by omega)), Nat.div_eq_of_lt l1, Nat.zero_add]
theorem w2_or (v x k : Nat) (h : v < 2 ^ k) : v ||| (x * 2 ^ k) = v + x * 2 ^ k := by
  have := Nat.shiftLeft_add_eq_or_of_lt h x
  rw [Nat.shiftLeft_eq] at this
  rw [Nat.or_comm, ← this, Nat.add_comm]

/-- the highest bits of the lanes -/
def tb (v k : Nat) : Nat := ln v k / 128
def tp (v : Nat) : Nat := w2 (tb v) 8
theorem tb_lt (v k : Nat) : tb v k < 2 := by have := ln_lt v k; unfold tb; omega
theorem tp_lt (v : Nat) : tp v < 256 := w2_lt (n := 8) fun k _ => tb_lt v k

theorem top_num (v k : Nat) (hk : k < 8) : bits .or .u8 (w2 (tb v) k : Nat) ((ln v k : Nat) / 128 * 2 ^ k % 256) = (w2 (tb v) (k + 1) : Nat) := by
  have h1 : w2 (tb v) k < 2 ^ k := w2_lt fun j _ => tb_lt v j
  have h2 : w2 (tb v) (k + 1) < 2 ^ (k + 1) := w2_lt fun j _ => tb_lt v j
  have h3 : (2 : Nat) ^ (k + 1) ≤ 256 := Nat.le_trans (Nat.pow_le_pow_right (by omega) (show k + 1 ≤ 8 by omega)) (by decide)
  have e : ((ln v k : Nat) : Int) / 128 * 2 ^ k = ((tb v k * 2 ^ k : Nat) : Int) := by unfold tb; simp
  rw [w2] at h2
  rw [e, w2, ← w2_or _ _ _ h1]
  have h4 := w2_or _ (tb v k) _ h1
  generalize w2 (tb v) k = a at *
  generalize tb v k * 2 ^ k = b at *
  have e2 : ((b : Nat) : Int) % 256 = (b : Nat) := by omega
  rw [e2, u8_or _ _ (by omega) (by omega) (by omega) (by omega)]
  simp

set_option maxHeartbeats 400000 in
theorem top_any (v : Nat) (w : World) (hv : v < 18446744073709551616) : Calls Try.prog 21 #[.int .u64 (v : Nat)] w fun e w' => e = .returned (.int .u8 (tp v : Nat)) ∧ w = w' := by
  go_enter Try.func21, Try.ntmps21
  go_wp2_with fail
  go_loop [3, 5] (fun o i => ∃ k : Nat, k ≤ 8 ∧ i = .int .i64 k ∧ o = .int .u8 (w2 (tb v) k : Nat)) (fun _ i => 8 - (intOf i).toNat)
  case atStart => exact ⟨0, by omega, rfl, rfl⟩
  case round =>
    obtain ⟨k, hk, rfl, rfl⟩ := hrel
    by_cases hlt : k < 8
    · have b1 := ln_lt v k
      go_wp2_with (go_at_call 34; ((with_reducible refine (lane_any v k _ hv hlt).mono ?_); rintro e w' ⟨rfl, rfl⟩))
      go_round
      case rel =>
        refine ⟨k + 1, by omega, by go_num, ?_⟩
        rw [← top_num v k hlt]
      case measure => simp [intOf]; omega
    · obtain rfl : k = 8 := by omega
      go_wp2
      go_ret
      exact ⟨rfl, rfl⟩

theorem top_step (v j : Nat) (hj : j < 8) : tp v / 2 ^ j = 2 * (tp v / 2 ^ (j + 1)) + tb v j := by
  have h := bit_w2 (f := tb v) (n := 8) (k := j) (fun k _ => tb_lt v k) hj
  have e : tp v / 2 ^ (j + 1) = tp v / 2 ^ j / 2 := by rw [Nat.pow_succ, Nat.div_div_eq_div_mul]
  unfold tp at *
  omega

set_option maxHeartbeats 400000 in
theorem top2_any (v : Nat) (w : World) (hv : v < 18446744073709551616) : Calls Try.prog 22 #[.int .u64 (v : Nat)] w fun e w' => e = .returned (.int .u8 (tp v : Nat)) ∧ Below w.heap.size w w' := by
  have D1 := Lib.hid (lanes2_any v w hv)
  unfold ar at D1
  go_enter Try.func22, Try.ntmps22
  go_wp2_with fail
  refine D1.out.mono ?_
  rintro e w1 ⟨rfl, hb1⟩
  have H1 := Lib.hid (AB.new w1 31 .i64 (ln v))
  have HB : Hid (Below w.heap.size w (w1.alloc (.cells (ar .i64 (ln v)) 31))) := hb1.alloc hb1.size _
  unfold ar at H1 HB
  clear hb1 D1
  have t0 : Hid (tp v / 2 ^ 8 = 0) := Nat.div_eq_of_lt (tp_lt v)
  have ht := tp_lt v
  go_wp2_with fail
  generalize w1.alloc (.cells #[.int .i64 (ln v 0 : Nat), .int .i64 (ln v 1 : Nat), .int .i64 (ln v 2 : Nat), .int .i64 (ln v 3 : Nat), .int .i64 (ln v 4 : Nat), .int .i64 (ln v 5 : Nat), .int .i64 (ln v 6 : Nat), .int .i64 (ln v 7 : Nat)] 31) = W at *
  go_loop [4, 5] (fun n i => ∃ j : Nat, j ≤ 8 ∧ i = .int .i64 ((j : Int) - 1) ∧ n = .int .i64 (tp v / 2 ^ j : Nat)) (fun _ i => (intOf i + 1).toNat)
  case atStart => exact ⟨8, by omega, rfl, by rw [t0.out]; rfl⟩
  case round =>
    obtain ⟨j, hj, rfl, rfl⟩ := hrel
    by_cases hlt : 0 < j
    · obtain ⟨i, rfl⟩ : ∃ i, j = i + 1 := ⟨j - 1, by omega⟩
      have c1 := H1.out.cell i (by omega)
      have b1 := ln_lt v i
      have hs := top_step v i (by omega)
      have hle : tp v / 2 ^ (i + 1) ≤ 255 := Nat.le_trans (Nat.div_le_self _ _) (by omega)
      have HS := Lib.hid hs
      clear hs
      rw [show (((i + 1 : Nat) : Int) - 1) = (i : Int) by omega]
      generalize hN : tp v / 2 ^ (i + 1) = N at *
      have HN := Lib.hid hN; clear hN
      unfold tb at HS
      generalize ln v i = x at c1 b1 HS
      by_cases hx : 127 < x
      all_goals
        go_wp2
        go_round
        case rel => exact ⟨i, by omega, rfl, by rw [HS.out]; congr 1; omega⟩
        case measure => simp [intOf] <;> omega
    · obtain rfl : j = 0 := by omega
      rw [Nat.pow_zero, Nat.div_one]
      go_wp2
      go_ret
      exact ⟨ret_int (by first | rfl | omega), HB.out⟩

/-- a word moved up by m lanes -/
def up (v m : Nat) : Nat := v * 256 ^ m % 18446744073709551616
theorem up_lt (v m : Nat) : up v m < 18446744073709551616 := Nat.mod_lt _ (by omega)
theorem ln_mod (x k : Nat) (hk : k < 8) : ln (x % 18446744073709551616) k = ln x k := by
  have e : (18446744073709551616 : Nat) = 256 ^ (k + 1) * 256 ^ (7 - k) := by
    rw [← Nat.pow_add, show k + 1 + (7 - k) = 8 by omega]
  have e2 : ∀ y : Nat, ln y k = y % 256 ^ (k + 1) / 256 ^ k := fun y => by
    rw [ln, Nat.pow_succ, Nat.mod_mul_right_div_self]
  rw [e2, e2, e, Nat.mod_mul_right_mod]
theorem ln_up (v m k : Nat) (hk : k < 8) : ln (up v m) k = if k < m then 0 else ln v (k - m) := by
  unfold up
  rw [ln_mod _ _ hk]
  by_cases h : k < m
  · rw [if_pos h, ln]
    have e : v * 256 ^ m = 256 ^ k * (256 * (v * 256 ^ (m - k - 1))) := by
      have : (256 : Nat) ^ m = 256 ^ k * (256 * 256 ^ (m - k - 1)) := by
        rw [← Nat.pow_succ', ← Nat.pow_add]; congr 1; omega
      rw [this, Nat.mul_left_comm, Nat.mul_left_comm 256 v]
    rw [e, Nat.mul_div_cancel_left _ (Nat.pow_pos (by omega)), Nat.mul_mod_right]
  · rw [if_neg h, ln, ln]
    have e : (256 : Nat) ^ k = 256 ^ m * 256 ^ (k - m) := by rw [← Nat.pow_add]; congr 1; omega
    rw [e, ← Nat.div_div_eq_div_mul, Nat.mul_div_cancel _ (Nat.pow_pos (by omega))]
theorem up_num (v m : Nat) : IntKind.u64.wrap ((v : Nat) * 2 ^ (8 * m)) = (up v m : Nat) := by
  have e : ((v : Nat) : Int) * 2 ^ (8 * m) = ((v * 256 ^ m : Nat) : Int) := by rw [← p256]; simp
  rw [e, IntKind.wrap_u64, up]
  omega

/-- how many lanes a word is moved -/
def lanesUp (n : Int) : Nat := (min (max n 0) 8).toNat

set_option maxHeartbeats 400000 in
theorem up_any (v : Nat) (n : Int) (w : World) (hv : v < 18446744073709551616) (h1 : -9223372036854775808 ≤ n) (h2 : n ≤ 9223372036854775807) : Calls Try.prog 25 #[.int .u64 (v : Nat), .int .i64 n] w fun e w' => e = .returned (.int .u64 (up v (lanesUp n) : Nat)) ∧ w = w' := by
  rw [← up_num]
  by_cases c1 : n ≤ 0
  · have e : lanesUp n = 0 := by unfold lanesUp; omega
    rw [e]
    go_enter Try.func25, Try.ntmps25
    go_wp2
    all_goals
      go_ret
      first
        | exact ⟨rfl, rfl⟩
        | (obtain rfl : n = 0 := by omega
           exact ⟨by simp, rfl⟩)
  · by_cases c2 : n < 8
    · obtain ⟨m, rfl⟩ : ∃ m : Nat, n = (m : Int) := ⟨n.toNat, by omega⟩
      have e : lanesUp m = m := by unfold lanesUp; omega
      rw [e]
      go_enter Try.func25, Try.ntmps25
      go_wp2
      go_ret
      exact ⟨rfl, rfl⟩
    · have e : lanesUp n = 8 := by unfold lanesUp; omega
      rw [e]
      by_cases c3 : n = 8
      · subst c3
        go_enter Try.func25, Try.ntmps25
        go_wp2
        go_ret
        exact ⟨rfl, rfl⟩
      · have c4 : decide (8 < if n < 0 then 0 else n) = true := by simp; split <;> omega
        go_enter Try.func25, Try.ntmps25
        go_wp2
        all_goals
          go_ret
          first
            | exact ⟨rfl, rfl⟩
            | (exfalso
               rename_i hh _
               split at hh <;> omega)

set_option maxHeartbeats 400000 in
theorem store_any (v : Nat) (w : World) (hv : v < 18446744073709551616) : Calls Try.prog 16 #[.int .u64 (v : Nat)] w fun e w' => e = .returned (.agg (ar .u8 (ln v))) ∧ Below w.heap.size w w' := by
  have h1 : AB ((w.alloc (.cells (zz .u8) 29)).alloc (.cells (zz .u8) 29)) w.heap.size 29 .u8 (fun _ => 0) := (AB.new w 29 .u8 (fun _ => 0)).alloc _
  have h2 : AB ((w.alloc (.cells (zz .u8) 29)).alloc (.cells (zz .u8) 29)) (w.heap.size + 1) 29 .u8 (upto (ln v) 0) := by
    have := AB.new (w.alloc (.cells (zz .u8) 29)) 29 .u8 (fun _ => 0)
    rw [World.size_alloc] at this; exact this
  have hb : Below w.heap.size w ((w.alloc (.cells (zz .u8) 29)).alloc (.cells (zz .u8) 29)) := ((Below.refl _ _).alloc (Nat.le_refl _) _).alloc (by simp) _
  have H1 := Lib.hid h1; have H2 := Lib.hid h2; have HB := Lib.hid hb
  clear h1 h2 hb
  go_enter Try.func16, Try.ntmps16
  go_wp2_with fail
  go_loopw [5] (fun i wr => ∃ k : Nat, k ≤ 8 ∧ i = .int .i64 k ∧ AB wr w.heap.size 29 .u8 (fun _ => 0) ∧ AB wr (w.heap.size + 1) 29 .u8 (upto (ln v) k) ∧ Below w.heap.size w wr) (fun i _ => 8 - (intOf i).toNat)
  case atStart => exact ⟨0, by omega, rfl, H1.out, H2.out, HB.out⟩
  case round =>
    obtain ⟨k, hk, rfl, h1, h2, hb⟩ := hrel
    clear H1 H2 HB
    have H1 := Lib.hid h1; have H2 := Lib.hid h2; have HB := Lib.hid hb
    by_cases hlt : k < 8
    · have c1 := h2.cell k hlt
      have f1 := h2.frozen k
      have HS := Lib.hid (h2.step hlt)
      clear h1 h2 hb
      go_wp2_with (go_at_call 34; ((with_reducible refine (lane_any v k _ hv hlt).mono ?_); rintro e w' ⟨rfl, rfl⟩))
      go_roundw
      case rel => exact ⟨k + 1, by omega, by go_num, H1.out.far (by simp) _, HS.out, HB.out.setCell (by simp) _⟩
      case measure => simp [intOf]; omega
    · obtain rfl : k = 8 := by omega
      have h2 := h2.full
      have a0 := h2.cell 0 (by omega); have a1 := h2.cell 1 (by omega); have a2 := h2.cell 2 (by omega); have a3 := h2.cell 3 (by omega)
      have a4 := h2.cell 4 (by omega); have a5 := h2.cell 5 (by omega); have a6 := h2.cell 6 (by omega); have a7 := h2.cell 7 (by omega)
      have b0 := h1.cell 0 (by omega); have b1 := h1.cell 1 (by omega); have b2 := h1.cell 2 (by omega); have b3 := h1.cell 3 (by omega)
      have b4 := h1.cell 4 (by omega); have b5 := h1.cell 5 (by omega); have b6 := h1.cell 6 (by omega); have b7 := h1.cell 7 (by omega)
      have z0 := h1.frozen 0; have z1 := h1.frozen 1; have z2 := h1.frozen 2; have z3 := h1.frozen 3
      have z4 := h1.frozen 4; have z5 := h1.frozen 5; have z6 := h1.frozen 6; have z7 := h1.frozen 7
      clear h1 h2 hb
      go_wp2
      exact bodyPost_ret (v := .agg (ar .u8 (ln v))) (by simp [results, Try.results16, go_sem, ar, a0, a1, a2, a3, a4, a5, a6, a7, b0, b1, b2, b3, b4, b5, b6, b7]) rfl ⟨rfl, ends8 HB.out (Nat.le_refl _) _ _ _ _ _ _ _ _⟩

/-- two new arrays, one behind the other -/
theorem two_new (w : World) (q : Nat → Nat) :
    AB ((w.alloc (.cells (ar .i64 q) 31)).alloc (.cells (zz .i64) 31)) w.heap.size 31 .i64 q ∧
    AB ((w.alloc (.cells (ar .i64 q) 31)).alloc (.cells (zz .i64) 31)) (w.heap.size + 1) 31 .i64 (fun _ => 0) ∧
    Below w.heap.size w ((w.alloc (.cells (ar .i64 q) 31)).alloc (.cells (zz .i64) 31)) := by
  refine ⟨(AB.new w 31 .i64 q).alloc _, ?_, ((Below.refl _ _).alloc (Nat.le_refl _) _).alloc (by simp) _⟩
  have := AB.new (w.alloc (.cells (ar .i64 q) 31)) 31 .i64 (fun _ => 0)
  rw [World.size_alloc] at this; exact this

set_option maxHeartbeats 1000000 in
theorem up2_any (v : Nat) (n : Int) (w : World) (hv : v < 18446744073709551616) (n1 : -9223372036854775808 ≤ n) (n2 : n ≤ 9223372036854775807) : Calls Try.prog 26 #[.int .u64 (v : Nat), .int .i64 n] w (GivesW w (up v (lanesUp n))) := by
  by_cases c1 : n ≤ 0
  · have e : lanesUp n = 0 := by unfold lanesUp; omega
    rw [e, show up v 0 = v by unfold up; rw [Nat.pow_zero, Nat.mul_one, Nat.mod_eq_of_lt hv]]
    go_enter Try.func26, Try.ntmps26
    go_wp2
    go_ret
    exact ⟨rfl, Below.refl _ _⟩
  · have D1 := Lib.hid (lanes2_any v w hv)
    have hF : ∀ k, k < 8 → ln (up v (lanesUp n)) k = if n < 8 ∧ n ≤ k then ln v (k - n.toNat) else 0 := fun k hk => by
      rw [ln_up _ _ _ hk]
      unfold lanesUp
      by_cases h : n < 8 ∧ n ≤ k
      · rw [if_pos h, if_neg (by omega)]; congr 2; omega
      · rw [if_neg h, if_pos (by omega)]
    have D3 : Hid (∀ W, Calls Try.prog 20 #[.agg (ar .i64 (ln (up v (lanesUp n))))] W (GivesW W (up v (lanesUp n)))) := fun W => by
      have := word2_any (ln (up v (lanesUp n))) W fun k _ => ln_lt _ _
      rw [← word_is (up_lt _ _)] at this; exact this
    have e0 : Hid (upto (ln (up v (lanesUp n))) 0 = fun _ => 0) := rfl
    generalize up v (lanesUp n) = T at *
    have HT := Lib.hid fun W => two_new W (ln v)
    have HF := Lib.hid hF
    clear hF
    generalize ln T = F at *
    generalize ln v = q at *
    unfold ar at D1 D3 HT
    unfold zz at HT
    go_enter Try.func26, Try.ntmps26
    go_wp2_with fail
    refine D1.out.mono ?_
    rintro e w2 ⟨rfl, hb1⟩
    have B2 := Lib.hid hb1
    clear hb1
    obtain ⟨t1, t3, t4⟩ := HT.out w2
    have T1 := Lib.hid t1; have T3 := Lib.hid t3; have T4 := Lib.hid (B2.out.trans (t4.mono B2.out.size))
    have hs2 := B2.out.size
    clear t1 t3 t4 B2 HT D1
    go_wp2_with fail
    go_loopw [7] (fun i wr => ∃ k : Nat, k ≤ 8 ∧ i = .int .i64 k ∧ AB wr w2.heap.size 31 .i64 q ∧ AB wr (w2.heap.size + 1) 31 .i64 (upto F k) ∧ Below w.heap.size w wr) (fun i _ => 8 - (intOf i).toNat)
    case atStart => exact ⟨0, by omega, rfl, T1.out, by rw [e0.out]; exact T3.out, T4.out⟩
    case round =>
      obtain ⟨k, hk, rfl, h1, h3, hb⟩ := hrel
      clear T1 T3 T4
      have H1 := Lib.hid h1; have H3 := Lib.hid h3; have HB := Lib.hid hb
      have hg : w.heap.size ≤ w2.heap.size + 1 := by omega
      by_cases hlt : k < 8
      · have HK := Lib.hid (HF.out k hlt)
        have c3 := h3.cell k hlt
        have f3 := h3.frozen k
        by_cases hc : n < 8 ∧ n ≤ k
        · obtain ⟨d, hd⟩ : ∃ d : Nat, (k : Int) - n = (d : Int) := ⟨((k : Int) - n).toNat, by omega⟩
          have c1' := h1.cell d (by omega)
          have d1 : d < 8 := by omega
          have HD : Hid (F k = q d) := by
            rw [HK.out, if_pos hc]; congr 1; omega
          have d2 := hc.1
          have d3 := hc.2
          clear h1 h3 hb hc HK
          have q1 : decide (n < 8) = true := by simpa using d2
          have q2 : decide ((k : Int) ≥ n) = true := by simpa using d3
          go_wp2
          go_roundw
          case rel => exact ⟨k + 1, by omega, by go_num, H1.out.far (by simp) _, H3.out.step1 hlt _ (by rw [HD.out]), HB.out.setCell hg _⟩
          case measure => simp [intOf]; omega
        · have HD : Hid (F k = 0) := by
            show F k = 0
            rw [HK.out, if_neg hc]
          clear h1 h3 hb HK
          by_cases d2 : n < 8
          · have d3 : ¬ n ≤ k := fun h => hc ⟨d2, h⟩
            clear hc
            go_wp2
            go_roundw
            case rel => exact ⟨k + 1, by omega, by go_num, H1.out, H3.out.step0 HD.out, HB.out⟩
            case measure => simp [intOf]; omega
          · clear hc
            go_wp2
            go_roundw
            case rel => exact ⟨k + 1, by omega, by go_num, H1.out, H3.out.step0 HD.out, HB.out⟩
            case measure => simp [intOf]; omega
      · obtain rfl : k = 8 := by omega
        have h3 := h3.full
        have a0 := h3.cell 0 (by omega); have a1 := h3.cell 1 (by omega); have a2 := h3.cell 2 (by omega); have a3 := h3.cell 3 (by omega)
        have a4 := h3.cell 4 (by omega); have a5 := h3.cell 5 (by omega); have a6 := h3.cell 6 (by omega); have a7 := h3.cell 7 (by omega)
        clear h1 h3 hb
        go_wp2_with fail
        refine (D3.out _).mono ?_
        rintro e w4 ⟨rfl, hb4⟩
        go_wp2
        go_ret
        exact ⟨rfl, HB.out.trans (hb4.mono HB.out.size)⟩
end Go.Proofs.Ythohifibkhdmpaa
