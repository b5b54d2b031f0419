/- Walks over the reference of lanes: Word, Join. -/
import Derived.Test.YthohifibkhdmpaaL3
namespace Go.Proofs.Ythohifibkhdmpaa
open Go.RowKit

theorem word_num (f : Nat → Nat) (k : Nat) (hk : k < 8) (hf : ∀ j, j < 8 → f j < 256) :
    IntKind.u64.wrap ((wo f k : Nat) + IntKind.u64.wrap ((f k : Nat) * 2 ^ (8 * k))) = (wo f (k + 1) : Nat) := by
  have h2 : wo f (k + 1) < 256 ^ (k + 1) := wo_lt fun j hj => hf j (by omega)
  have h3 : (256 : Nat) ^ (k + 1) ≤ 18446744073709551616 := Nat.le_trans (Nat.pow_le_pow_right (by omega) (show k + 1 ≤ 8 by omega)) (by decide)
  have e : ((f k : Nat) : Int) * 2 ^ (8 * k) = ((f k * 256 ^ k : Nat) : Int) := by rw [← p256]; simp
  rw [wo] at h2
  rw [e, IntKind.wrap_u64, wo, IntKind.wrap_u64]
  generalize wo f k = a at *
  generalize f k * 256 ^ k = b at *
  omega

set_option maxHeartbeats 400000 in
theorem word2_any (q : Nat → Nat) (w : World) (hq : ∀ k, k < 8 → q k < 256) : Calls Try.prog 20 #[.agg (ar .i64 q)] w (GivesW w (wo q 8)) := by
  have h1 := AB.new w 31 .i64 q
  have HB : Hid (Below w.heap.size w (w.alloc (.cells (ar .i64 q) 31))) := (Below.refl _ _).alloc (Nat.le_refl _) _
  have H1 := Lib.hid h1
  have HQ := Lib.hid hq
  clear h1 hq
  unfold ar at H1 HB ⊢
  go_enter Try.func20, Try.ntmps20
  go_wp2_with fail
  generalize w.alloc (.cells #[.int .i64 (q 0 : Nat), .int .i64 (q 1 : Nat), .int .i64 (q 2 : Nat), .int .i64 (q 3 : Nat), .int .i64 (q 4 : Nat), .int .i64 (q 5 : Nat), .int .i64 (q 6 : Nat), .int .i64 (q 7 : Nat)] 31) = W at *
  go_loop [3, 4] (fun v i => ∃ k : Nat, k ≤ 8 ∧ i = .int .i64 k ∧ v = .int .u64 (wo q k : Nat)) (fun _ i => 8 - (intOf i).toNat)
  case atStart => exact ⟨0, by omega, rfl, rfl⟩
  case round =>
    obtain ⟨k, hk, rfl, rfl⟩ := hrel
    by_cases hlt : k < 8
    · have c1 := H1.out.cell k hlt
      have b1 : q k < 256 := HQ.out k hlt
      have b2 : wo q k < 18446744073709551616 := Nat.lt_of_lt_of_le (wo_lt (n := k) fun j hj => HQ.out j (by omega)) (Nat.le_trans (Nat.pow_le_pow_right (by omega) (show k ≤ 8 by omega)) (by decide))
      go_wp2
      go_round
      case rel =>
        refine ⟨k + 1, by omega, by go_num, ?_⟩
        first
          | rw [← word_num q k hlt HQ.out]
      case measure => simp [intOf]; omega
    · obtain rfl : k = 8 := by omega
      go_wp2
      go_ret
      exact ⟨rfl, HB.out⟩

/-- three new arrays, one behind the other -/
theorem three (w : World) (q r : Nat → Nat) :
    AB (((w.alloc (.cells (ar .i64 q) 31)).alloc (.cells (ar .i64 r) 31)).alloc (.cells (zz .i64) 31)) w.heap.size 31 .i64 q ∧
    AB (((w.alloc (.cells (ar .i64 q) 31)).alloc (.cells (ar .i64 r) 31)).alloc (.cells (zz .i64) 31)) (w.heap.size + 1) 31 .i64 r ∧
    AB (((w.alloc (.cells (ar .i64 q) 31)).alloc (.cells (ar .i64 r) 31)).alloc (.cells (zz .i64) 31)) (w.heap.size + 1 + 1) 31 .i64 (fun _ => 0) ∧
    Below w.heap.size w (((w.alloc (.cells (ar .i64 q) 31)).alloc (.cells (ar .i64 r) 31)).alloc (.cells (zz .i64) 31)) := by
  refine ⟨((AB.new w 31 .i64 q).alloc _).alloc _, ?_, ?_, (((Below.refl _ _).alloc (Nat.le_refl _) _).alloc (by simp) _).alloc (by simp; omega) _⟩
  · have := (AB.new (w.alloc (.cells (ar .i64 q) 31)) 31 .i64 r).alloc (.cells (zz .i64) 31)
    rw [World.size_alloc] at this; exact this
  · have := AB.new ((w.alloc (.cells (ar .i64 q) 31)).alloc (.cells (ar .i64 r) 31)) 31 .i64 (fun _ => 0)
    rw [World.size_alloc, World.size_alloc] at this; exact this
theorem AB.step2 {w : World} {g k : Nat} {t : TypeId} {kd : IntKind} {f : Nat → Nat} (h : AB w g t kd (upto f k)) (hk : k < 8) (u : Nat) (uu xx : Int) (hu : uu = (u : Nat)) (hx : xx = (f k : Nat)) : AB ((w.setCell ⟨g, k, none⟩ (.int kd uu)).setCell ⟨g, k, none⟩ (.int kd xx)) g t kd (upto f (k + 1)) := by
  subst hx hu
  exact ((h.set_ k hk u).set_ k hk (f k)).congr fun j _ => by
    rw [← upto_succ]
    by_cases e : j = k
    · rw [if_pos e, if_pos e]
    · rw [if_neg e, if_neg e, if_neg e]
theorem AB.step1 {w : World} {g k : Nat} {t : TypeId} {kd : IntKind} {f : Nat → Nat} (h : AB w g t kd (upto f k)) (hk : k < 8) (xx : Int) (hx : xx = (f k : Nat)) : AB (w.setCell ⟨g, k, none⟩ (.int kd xx)) g t kd (upto f (k + 1)) := by
  subst hx; exact h.step hk
theorem AB.step0 {w : World} {g k : Nat} {t : TypeId} {kd : IntKind} {f : Nat → Nat} (h : AB w g t kd (upto f k)) (hx : f k = 0) : AB w g t kd (upto f (k + 1)) :=
  h.congr fun j _ => by
    rw [← upto_succ]
    by_cases e : j = k
    · subst e; rw [if_pos rfl, hx]; unfold upto; rw [if_neg (by omega)]
    · rw [if_neg e]

set_option maxHeartbeats 1000000 in
theorem joinA_any (a b : Nat) (w : World) (ha : a < 18446744073709551616) (hb : b < 18446744073709551616) : Calls Try.prog 11 #[.int .u64 (a : Nat), .int .u64 (b : Nat), .int .i64 1] w (GivesW w (jn gAdd a b)) := by
  have D1 := Lib.hid (lanes2_any a w ha)
  have D2 : Hid (∀ W, Calls Try.prog 17 #[.int .u64 (b : Nat)] W fun e w' => e = .returned (.agg (ar .i64 (ln b))) ∧ Below W.heap.size W w') := fun W => lanes2_any b W hb
  have D3 : Hid (∀ W, Calls Try.prog 20 #[.agg (ar .i64 (fun k => gAdd (ln a k) (ln b k)))] W (GivesW W (jn gAdd a b))) := fun W => word2_any _ W fun k _ => by
    have := ln_lt a k; have := ln_lt b k; first | exact gAdd_lt _ _ | exact gAdd_lt _ _ (by assumption)
  have HX := Lib.hid (ln_lt a); have HY := Lib.hid (ln_lt b)
  have HT := Lib.hid fun W => three W (ln a) (ln b)
  have e0 : Hid (upto (fun k => gAdd (ln a k) (ln b k)) 0 = fun _ => 0) := rfl
  generalize hF : (fun k => gAdd (ln a k) (ln b k)) = F at *
  have HF : Hid (∀ k, F k = gAdd (ln a k) (ln b k)) := fun k => by rw [← hF]
  clear hF
  generalize ln a = q at *
  generalize ln b = r at *
  unfold ar at D1 D2 D3 HT
  unfold zz at HT
  go_enter Try.func11, Try.ntmps11
  go_wp2_with fail
  refine D1.out.mono ?_
  rintro e w1 ⟨rfl, hb1⟩
  have B1 := Lib.hid hb1
  clear hb1
  go_wp2_with fail
  refine (D2.out _).mono ?_
  rintro e w2 ⟨rfl, hb2⟩
  have B2 := Lib.hid (B1.out.trans (hb2.mono B1.out.size))
  clear hb2 B1
  obtain ⟨t1, t2, t3, t4⟩ := HT.out w2
  have T1 := Lib.hid t1; have T2 := Lib.hid t2; have T3 := Lib.hid t3; have T4 := Lib.hid (B2.out.trans (t4.mono B2.out.size))
  have hs2 := B2.out.size
  clear t1 t2 t3 t4 B2 HT D1 D2
  go_wp2_with fail
  go_loopw [10] (fun i wr => ∃ k : Nat, k ≤ 8 ∧ i = .int .i64 k ∧ AB wr w2.heap.size 31 .i64 q ∧ AB wr (w2.heap.size + 1) 31 .i64 r ∧ AB wr (w2.heap.size + 1 + 1) 31 .i64 (upto F k) ∧ Below w.heap.size w wr) (fun i _ => 8 - (intOf i).toNat)
  case atStart => exact ⟨0, by omega, rfl, T1.out, T2.out, by rw [e0.out]; exact T3.out, T4.out⟩
  case round =>
    obtain ⟨k, hk, rfl, h1, h2, h3, hb⟩ := hrel
    clear T1 T2 T3 T4
    have H1 := Lib.hid h1; have H2 := Lib.hid h2; have H3 := Lib.hid h3; have HB := Lib.hid hb
    by_cases hlt : k < 8
    · have c1 := h1.cell k hlt
      have c2 := h2.cell k hlt
      have c3 := h3.cell k hlt
      have f3 := h3.frozen k
      have b1 : q k < 256 := HX.out k
      have b2 : r k < 256 := HY.out k
      have HK := Lib.hid (HF.out k)
      clear h1 h2 h3 hb
      have hg : w.heap.size ≤ w2.heap.size + 1 + 1 := by omega
      generalize q k = x at c1 b1 HK
      generalize r k = y at c2 b2 HK
      have q1 : (0 : Int) ≤ (k : Int) := by omega
      have q2 : (k : Int) < 8 := by omega
      have q3 : IntKind.i64.wrap ((x : Int) + (y : Int)) = (x : Int) + (y : Int) := IntWalk.i64_in _ (by omega)
      go_wp2_with fail
      go_quiet (fail)
      clear q3
      go_wp2_with fail
      go_roundw
      case rel => exact ⟨k + 1, by omega, by go_num, ((show AB (wr.drewN _) _ _ _ _ from H1.out).far (by simp <;> omega) _), ((show AB (wr.drewN _) _ _ _ _ from H2.out).far (by simp <;> omega) _), (show AB (wr.drewN _) _ _ _ _ from H3.out).step1 hlt _ (by rw [HK.out]; unfold gAdd; omega), ((below_drewN HB.out _).setCell hg _)⟩
      case measure => simp [intOf]; omega
    · obtain rfl : k = 8 := by omega
      have h3 := h3.full
      have a0 := h3.cell 0 (by omega); have a1 := h3.cell 1 (by omega); have a2 := h3.cell 2 (by omega); have a3 := h3.cell 3 (by omega)
      have a4 := h3.cell 4 (by omega); have a5 := h3.cell 5 (by omega); have a6 := h3.cell 6 (by omega); have a7 := h3.cell 7 (by omega)
      clear h1 h2 h3 hb
      go_wp2_with fail
      refine (D3.out _).mono ?_
      rintro e w4 ⟨rfl, hb4⟩
      go_wp2
      go_ret
      exact ⟨rfl, HB.out.trans (hb4.mono HB.out.size)⟩
set_option maxHeartbeats 1000000 in
theorem joinB_any (a b : Nat) (w : World) (ha : a < 18446744073709551616) (hb : b < 18446744073709551616) : Calls Try.prog 11 #[.int .u64 (a : Nat), .int .u64 (b : Nat), .int .i64 2] w (GivesW w (jn gCap a b)) := by
  have D1 := Lib.hid (lanes2_any a w ha)
  have D2 : Hid (∀ W, Calls Try.prog 17 #[.int .u64 (b : Nat)] W fun e w' => e = .returned (.agg (ar .i64 (ln b))) ∧ Below W.heap.size W w') := fun W => lanes2_any b W hb
  have D3 : Hid (∀ W, Calls Try.prog 20 #[.agg (ar .i64 (fun k => gCap (ln a k) (ln b k)))] W (GivesW W (jn gCap a b))) := fun W => word2_any _ W fun k _ => by
    have := ln_lt a k; have := ln_lt b k; first | exact gCap_lt _ _ | exact gCap_lt _ _ (by assumption)
  have HX := Lib.hid (ln_lt a); have HY := Lib.hid (ln_lt b)
  have HT := Lib.hid fun W => three W (ln a) (ln b)
  have e0 : Hid (upto (fun k => gCap (ln a k) (ln b k)) 0 = fun _ => 0) := rfl
  generalize hF : (fun k => gCap (ln a k) (ln b k)) = F at *
  have HF : Hid (∀ k, F k = gCap (ln a k) (ln b k)) := fun k => by rw [← hF]
  clear hF
  generalize ln a = q at *
  generalize ln b = r at *
  unfold ar at D1 D2 D3 HT
  unfold zz at HT
  go_enter Try.func11, Try.ntmps11
  go_wp2_with fail
  refine D1.out.mono ?_
  rintro e w1 ⟨rfl, hb1⟩
  have B1 := Lib.hid hb1
  clear hb1
  go_wp2_with fail
  refine (D2.out _).mono ?_
  rintro e w2 ⟨rfl, hb2⟩
  have B2 := Lib.hid (B1.out.trans (hb2.mono B1.out.size))
  clear hb2 B1
  obtain ⟨t1, t2, t3, t4⟩ := HT.out w2
  have T1 := Lib.hid t1; have T2 := Lib.hid t2; have T3 := Lib.hid t3; have T4 := Lib.hid (B2.out.trans (t4.mono B2.out.size))
  have hs2 := B2.out.size
  clear t1 t2 t3 t4 B2 HT D1 D2
  go_wp2_with fail
  go_loopw [10] (fun i wr => ∃ k : Nat, k ≤ 8 ∧ i = .int .i64 k ∧ AB wr w2.heap.size 31 .i64 q ∧ AB wr (w2.heap.size + 1) 31 .i64 r ∧ AB wr (w2.heap.size + 1 + 1) 31 .i64 (upto F k) ∧ Below w.heap.size w wr) (fun i _ => 8 - (intOf i).toNat)
  case atStart => exact ⟨0, by omega, rfl, T1.out, T2.out, by rw [e0.out]; exact T3.out, T4.out⟩
  case round =>
    obtain ⟨k, hk, rfl, h1, h2, h3, hb⟩ := hrel
    clear T1 T2 T3 T4
    have H1 := Lib.hid h1; have H2 := Lib.hid h2; have H3 := Lib.hid h3; have HB := Lib.hid hb
    by_cases hlt : k < 8
    · have c1 := h1.cell k hlt
      have c2 := h2.cell k hlt
      have c3 := h3.cell k hlt
      have f3 := h3.frozen k
      have b1 : q k < 256 := HX.out k
      have b2 : r k < 256 := HY.out k
      have HK := Lib.hid (HF.out k)
      clear h1 h2 h3 hb
      have hg : w.heap.size ≤ w2.heap.size + 1 + 1 := by omega
      generalize q k = x at c1 b1 HK
      generalize r k = y at c2 b2 HK
      have q1 : (0 : Int) ≤ (k : Int) := by omega
      have q2 : (k : Int) < 8 := by omega
      have q3 : IntKind.i64.wrap ((x : Int) + (y : Int)) = (x : Int) + (y : Int) := IntWalk.i64_in _ (by omega)
      by_cases hc : 255 < x + y
      · skip
        have hd : decide ((x : Int) + (y : Int) > 255) = true := by simp; omega
        go_wp2_with fail
        go_quiet (fail)
        clear q3
        go_wp2_with fail
        go_roundw
        case rel => exact ⟨k + 1, by omega, by go_num, (((show AB (wr.drewN _) _ _ _ _ from H1.out).far (by simp <;> omega) _).far (by simp <;> omega) _), (((show AB (wr.drewN _) _ _ _ _ from H2.out).far (by simp <;> omega) _).far (by simp <;> omega) _), (show AB (wr.drewN _) _ _ _ _ from H3.out).step2 hlt (x + y) _ _ (by omega) (by rw [HK.out]; unfold gCap; omega), (((below_drewN HB.out _).setCell hg _).setCell hg _)⟩
        case measure => simp [intOf]; omega
      · skip
        have hd : decide ((x : Int) + (y : Int) > 255) = false := by simp; omega
        go_wp2_with fail
        go_quiet (fail)
        clear q3
        go_wp2_with fail
        go_roundw
        case rel => exact ⟨k + 1, by omega, by go_num, ((show AB (wr.drewN _) _ _ _ _ from H1.out).far (by simp <;> omega) _), ((show AB (wr.drewN _) _ _ _ _ from H2.out).far (by simp <;> omega) _), (show AB (wr.drewN _) _ _ _ _ from H3.out).step1 hlt _ (by rw [HK.out]; unfold gCap; omega), ((below_drewN HB.out _).setCell hg _)⟩
        case measure => simp [intOf]; omega
    · obtain rfl : k = 8 := by omega
      have h3 := h3.full
      have a0 := h3.cell 0 (by omega); have a1 := h3.cell 1 (by omega); have a2 := h3.cell 2 (by omega); have a3 := h3.cell 3 (by omega)
      have a4 := h3.cell 4 (by omega); have a5 := h3.cell 5 (by omega); have a6 := h3.cell 6 (by omega); have a7 := h3.cell 7 (by omega)
      clear h1 h2 h3 hb
      go_wp2_with fail
      refine (D3.out _).mono ?_
      rintro e w4 ⟨rfl, hb4⟩
      go_wp2
      go_ret
      exact ⟨rfl, HB.out.trans (hb4.mono HB.out.size)⟩
set_option maxHeartbeats 1000000 in
theorem joinC_any (a b : Nat) (w : World) (ha : a < 18446744073709551616) (hb : b < 18446744073709551616) : Calls Try.prog 11 #[.int .u64 (a : Nat), .int .u64 (b : Nat), .int .i64 3] w (GivesW w (jn gEq a b)) := by
  have D1 := Lib.hid (lanes2_any a w ha)
  have D2 : Hid (∀ W, Calls Try.prog 17 #[.int .u64 (b : Nat)] W fun e w' => e = .returned (.agg (ar .i64 (ln b))) ∧ Below W.heap.size W w') := fun W => lanes2_any b W hb
  have D3 : Hid (∀ W, Calls Try.prog 20 #[.agg (ar .i64 (fun k => gEq (ln a k) (ln b k)))] W (GivesW W (jn gEq a b))) := fun W => word2_any _ W fun k _ => by
    have := ln_lt a k; have := ln_lt b k; first | exact gEq_lt _ _ | exact gEq_lt _ _ (by assumption)
  have HX := Lib.hid (ln_lt a); have HY := Lib.hid (ln_lt b)
  have HT := Lib.hid fun W => three W (ln a) (ln b)
  have e0 : Hid (upto (fun k => gEq (ln a k) (ln b k)) 0 = fun _ => 0) := rfl
  generalize hF : (fun k => gEq (ln a k) (ln b k)) = F at *
  have HF : Hid (∀ k, F k = gEq (ln a k) (ln b k)) := fun k => by rw [← hF]
  clear hF
  generalize ln a = q at *
  generalize ln b = r at *
  unfold ar at D1 D2 D3 HT
  unfold zz at HT
  go_enter Try.func11, Try.ntmps11
  go_wp2_with fail
  refine D1.out.mono ?_
  rintro e w1 ⟨rfl, hb1⟩
  have B1 := Lib.hid hb1
  clear hb1
  go_wp2_with fail
  refine (D2.out _).mono ?_
  rintro e w2 ⟨rfl, hb2⟩
  have B2 := Lib.hid (B1.out.trans (hb2.mono B1.out.size))
  clear hb2 B1
  obtain ⟨t1, t2, t3, t4⟩ := HT.out w2
  have T1 := Lib.hid t1; have T2 := Lib.hid t2; have T3 := Lib.hid t3; have T4 := Lib.hid (B2.out.trans (t4.mono B2.out.size))
  have hs2 := B2.out.size
  clear t1 t2 t3 t4 B2 HT D1 D2
  go_wp2_with fail
  go_loopw [10] (fun i wr => ∃ k : Nat, k ≤ 8 ∧ i = .int .i64 k ∧ AB wr w2.heap.size 31 .i64 q ∧ AB wr (w2.heap.size + 1) 31 .i64 r ∧ AB wr (w2.heap.size + 1 + 1) 31 .i64 (upto F k) ∧ Below w.heap.size w wr) (fun i _ => 8 - (intOf i).toNat)
  case atStart => exact ⟨0, by omega, rfl, T1.out, T2.out, by rw [e0.out]; exact T3.out, T4.out⟩
  case round =>
    obtain ⟨k, hk, rfl, h1, h2, h3, hb⟩ := hrel
    clear T1 T2 T3 T4
    have H1 := Lib.hid h1; have H2 := Lib.hid h2; have H3 := Lib.hid h3; have HB := Lib.hid hb
    by_cases hlt : k < 8
    · have c1 := h1.cell k hlt
      have c2 := h2.cell k hlt
      have c3 := h3.cell k hlt
      have f3 := h3.frozen k
      have b1 : q k < 256 := HX.out k
      have b2 : r k < 256 := HY.out k
      have HK := Lib.hid (HF.out k)
      clear h1 h2 h3 hb
      have hg : w.heap.size ≤ w2.heap.size + 1 + 1 := by omega
      generalize q k = x at c1 b1 HK
      generalize r k = y at c2 b2 HK
      have q1 : (0 : Int) ≤ (k : Int) := by omega
      have q2 : (k : Int) < 8 := by omega
      have q3 : IntKind.i64.wrap ((x : Int) + (y : Int)) = (x : Int) + (y : Int) := IntWalk.i64_in _ (by omega)
      by_cases hc : x = y
      · skip
        have hd : ((x : Int) == (y : Int)) = true := by simp; omega
        go_wp2_with fail
        go_quiet (fail)
        clear q3
        go_wp2_with fail
        go_quiet (fail)
        go_wp2_with fail
        go_roundw
        case rel => exact ⟨k + 1, by omega, by go_num, ((show AB (wr.drewN _) _ _ _ _ from H1.out).far (by simp <;> omega) _), ((show AB (wr.drewN _) _ _ _ _ from H2.out).far (by simp <;> omega) _), (show AB (wr.drewN _) _ _ _ _ from H3.out).step1 hlt _ (by rw [HK.out]; unfold gEq; rw [if_pos hc]; rfl), ((below_drewN HB.out _).setCell hg _)⟩
        case measure => simp [intOf]; omega
      · skip
        have hd : ((x : Int) == (y : Int)) = false := by simp; omega
        go_wp2_with fail
        go_quiet (fail)
        clear q3
        go_wp2_with fail
        go_quiet (fail)
        go_wp2_with fail
        go_roundw
        case rel => exact ⟨k + 1, by omega, by go_num, (show AB (wr.drewN _) _ _ _ _ from H1.out), (show AB (wr.drewN _) _ _ _ _ from H2.out), (show AB (wr.drewN _) _ _ _ _ from H3.out).step0 (by rw [HK.out]; unfold gEq; rw [if_neg hc]), (below_drewN HB.out _)⟩
        case measure => simp [intOf]; omega
    · obtain rfl : k = 8 := by omega
      have h3 := h3.full
      have a0 := h3.cell 0 (by omega); have a1 := h3.cell 1 (by omega); have a2 := h3.cell 2 (by omega); have a3 := h3.cell 3 (by omega)
      have a4 := h3.cell 4 (by omega); have a5 := h3.cell 5 (by omega); have a6 := h3.cell 6 (by omega); have a7 := h3.cell 7 (by omega)
      clear h1 h2 h3 hb
      go_wp2_with fail
      refine (D3.out _).mono ?_
      rintro e w4 ⟨rfl, hb4⟩
      go_wp2
      go_ret
      exact ⟨rfl, HB.out.trans (hb4.mono HB.out.size)⟩
set_option maxHeartbeats 1000000 in
theorem joinD_any (a b : Nat) (w : World) (ha : a < 18446744073709551616) (hb : b < 18446744073709551616) : Calls Try.prog 11 #[.int .u64 (a : Nat), .int .u64 (b : Nat), .int .i64 4] w (GivesW w (jn gMin a b)) := by
  have D1 := Lib.hid (lanes2_any a w ha)
  have D2 : Hid (∀ W, Calls Try.prog 17 #[.int .u64 (b : Nat)] W fun e w' => e = .returned (.agg (ar .i64 (ln b))) ∧ Below W.heap.size W w') := fun W => lanes2_any b W hb
  have D3 : Hid (∀ W, Calls Try.prog 20 #[.agg (ar .i64 (fun k => gMin (ln a k) (ln b k)))] W (GivesW W (jn gMin a b))) := fun W => word2_any _ W fun k _ => by
    have := ln_lt a k; have := ln_lt b k; first | exact gMin_lt _ _ | exact gMin_lt _ _ (by assumption)
  have HX := Lib.hid (ln_lt a); have HY := Lib.hid (ln_lt b)
  have HT := Lib.hid fun W => three W (ln a) (ln b)
  have e0 : Hid (upto (fun k => gMin (ln a k) (ln b k)) 0 = fun _ => 0) := rfl
  generalize hF : (fun k => gMin (ln a k) (ln b k)) = F at *
  have HF : Hid (∀ k, F k = gMin (ln a k) (ln b k)) := fun k => by rw [← hF]
  clear hF
  generalize ln a = q at *
  generalize ln b = r at *
  unfold ar at D1 D2 D3 HT
  unfold zz at HT
  go_enter Try.func11, Try.ntmps11
  go_wp2_with fail
  refine D1.out.mono ?_
  rintro e w1 ⟨rfl, hb1⟩
  have B1 := Lib.hid hb1
  clear hb1
  go_wp2_with fail
  refine (D2.out _).mono ?_
  rintro e w2 ⟨rfl, hb2⟩
  have B2 := Lib.hid (B1.out.trans (hb2.mono B1.out.size))
  clear hb2 B1
  obtain ⟨t1, t2, t3, t4⟩ := HT.out w2
  have T1 := Lib.hid t1; have T2 := Lib.hid t2; have T3 := Lib.hid t3; have T4 := Lib.hid (B2.out.trans (t4.mono B2.out.size))
  have hs2 := B2.out.size
  clear t1 t2 t3 t4 B2 HT D1 D2
  go_wp2_with fail
  go_loopw [10] (fun i wr => ∃ k : Nat, k ≤ 8 ∧ i = .int .i64 k ∧ AB wr w2.heap.size 31 .i64 q ∧ AB wr (w2.heap.size + 1) 31 .i64 r ∧ AB wr (w2.heap.size + 1 + 1) 31 .i64 (upto F k) ∧ Below w.heap.size w wr) (fun i _ => 8 - (intOf i).toNat)
  case atStart => exact ⟨0, by omega, rfl, T1.out, T2.out, by rw [e0.out]; exact T3.out, T4.out⟩
  case round =>
    obtain ⟨k, hk, rfl, h1, h2, h3, hb⟩ := hrel
    clear T1 T2 T3 T4
    have H1 := Lib.hid h1; have H2 := Lib.hid h2; have H3 := Lib.hid h3; have HB := Lib.hid hb
    by_cases hlt : k < 8
    · have c1 := h1.cell k hlt
      have c2 := h2.cell k hlt
      have c3 := h3.cell k hlt
      have f3 := h3.frozen k
      have b1 : q k < 256 := HX.out k
      have b2 : r k < 256 := HY.out k
      have HK := Lib.hid (HF.out k)
      clear h1 h2 h3 hb
      have hg : w.heap.size ≤ w2.heap.size + 1 + 1 := by omega
      generalize q k = x at c1 b1 HK
      generalize r k = y at c2 b2 HK
      have q1 : (0 : Int) ≤ (k : Int) := by omega
      have q2 : (k : Int) < 8 := by omega
      have q3 : IntKind.i64.wrap ((x : Int) + (y : Int)) = (x : Int) + (y : Int) := IntWalk.i64_in _ (by omega)
      by_cases hc : y < x
      · skip
        have hd : decide (y < x) = true := by simp; omega
        go_wp2_with fail
        go_quiet (fail)
        clear q3
        go_wp2_with fail
        go_quiet (fail)
        go_wp2_with fail
        go_roundw
        case rel => exact ⟨k + 1, by omega, by go_num, (((show AB (wr.drewN _) _ _ _ _ from H1.out).far (by simp <;> omega) _).far (by simp <;> omega) _), (((show AB (wr.drewN _) _ _ _ _ from H2.out).far (by simp <;> omega) _).far (by simp <;> omega) _), (show AB (wr.drewN _) _ _ _ _ from H3.out).step2 hlt x _ _ rfl (by rw [HK.out]; unfold gMin; omega), ((below_drewN ((below_drewN HB.out _).setCell hg _) _).setCell hg _)⟩
        case measure => simp [intOf]; omega
      · skip
        have hd : decide (y < x) = false := by simp; omega
        go_wp2_with fail
        go_quiet (fail)
        clear q3
        go_wp2_with fail
        go_quiet (fail)
        go_wp2_with fail
        go_roundw
        case rel => exact ⟨k + 1, by omega, by go_num, ((show AB (wr.drewN _) _ _ _ _ from H1.out).far (by simp <;> omega) _), ((show AB (wr.drewN _) _ _ _ _ from H2.out).far (by simp <;> omega) _), (show AB (wr.drewN _) _ _ _ _ from H3.out).step1 hlt _ (by rw [HK.out]; unfold gMin; omega), (below_drewN ((below_drewN HB.out _).setCell hg _) _)⟩
        case measure => simp [intOf]; omega
    · obtain rfl : k = 8 := by omega
      have h3 := h3.full
      have a0 := h3.cell 0 (by omega); have a1 := h3.cell 1 (by omega); have a2 := h3.cell 2 (by omega); have a3 := h3.cell 3 (by omega)
      have a4 := h3.cell 4 (by omega); have a5 := h3.cell 5 (by omega); have a6 := h3.cell 6 (by omega); have a7 := h3.cell 7 (by omega)
      clear h1 h2 h3 hb
      go_wp2_with fail
      refine (D3.out _).mono ?_
      rintro e w4 ⟨rfl, hb4⟩
      go_wp2
      go_ret
      exact ⟨rfl, HB.out.trans (hb4.mono HB.out.size)⟩
end Go.Proofs.Ythohifibkhdmpaa
