/- A term as new memory. -/
import Derived.Test.YtnaecagmcpndhaaX3
namespace Go.Proofs.Ytnaecagmcpndhaa
open Go.RowKit
set_option maxRecDepth 100000 in
set_option maxHeartbeats 8000000 in
theorem copy_any : ∀ (t : Tm) (d : TD) (N : Nat) (w : World), N ≤ w.heap.size → TS w (fun k => k < N) t d → Few t → Calls Try.prog 20 #[d.val] w (Wo w N t) := by
  intro t
  induction t using Tm.ind with
  | h op f lo hi ks ih =>
  intro d N w hN ht hf
  cases ht with
  | mk _ _ _ _ _ q A c ds hq hl hn hk hr =>
  have h500 := hf.len
  obtain ⟨n, hnn⟩ : ∃ n, ks.length = n := ⟨_, rfl⟩
  rw [hnn] at hn h500
  have L0 : Hid (Lw w (((w.alloc (.cells #[.int .i64 op, .int .u64 (uv (q 0)), .int .u64 (uv (q 1)), .int .u64 (uv (q 2)), .int .u64 (uv (q 3)), .int .i64 lo, .int .i64 hi, .slice A n c] 29)).alloc (.cells #[.int .i64 0, .int .u64 0, .int .u64 0, .int .u64 0, .int .u64 0, .int .i64 0, .int .i64 0, .slice none 0 0] 29)).alloc (.cells #[.int .i64 op, .int .u64 (uv (q 0)), .int .u64 (uv (q 1)), .int .u64 (uv (q 2)), .int .u64 (uv (q 3)), .int .i64 lo, .int .i64 hi, .slice none 0 0] 29)) N ⟨op, q, lo, hi, A, n, c⟩ none 0 [] (ks.take 0)) := by
    refine ⟨?_, nb3 _ _ _ _, ((TB.new w ⟨op, q, lo, hi, A, n, c⟩).alloc _).alloc _, ?_, ?_⟩
    · rw [List.take_zero]; exact Kw.nil _ _ _
    · have := TB.new (w.alloc (.cells #[.int .i64 op, .int .u64 (uv (q 0)), .int .u64 (uv (q 1)), .int .u64 (uv (q 2)), .int .u64 (uv (q 3)), .int .i64 lo, .int .i64 hi, .slice A n c] 29)) zT
      rw [World.size_alloc] at this
      exact this.alloc _
    · have := TB.new ((w.alloc (.cells #[.int .i64 op, .int .u64 (uv (q 0)), .int .u64 (uv (q 1)), .int .u64 (uv (q 2)), .int .u64 (uv (q 3)), .int .i64 lo, .int .i64 hi, .slice A n c] 29)).alloc (.cells #[.int .i64 0, .int .u64 0, .int .u64 0, .int .u64 0, .int .u64 0, .int .i64 0, .int .i64 0, .slice none 0 0] 29)) ⟨op, q, lo, hi, none, 0, 0⟩
      rw [World.size_alloc, World.size_alloc] at this
      exact this
  obtain ⟨⟨x0, x1, x2, x3, x4, x5, x6, x7⟩, _⟩ := L0.out.arg.all
  have IH := Lib.hid ih; have HK := Lib.hid hk; have HR := Lib.hid hr; have HL := Lib.hid hl; have HN := Lib.hid hnn; have HF := Lib.hid hf; have HQ := Lib.hid hq; have H0 := Lib.hid hN
  simp only [hnn]
  clear ih hk hr hl hnn hf hq hN
  unfold TD.val
  go_enter Try.func20, Try.ntmps20
  go_wp2_with fail
  go_loopw [4] (fun v wr => ∃ (i : Nat) (K : Option Addr) (ck : Nat) (ds' : List TD), i ≤ n ∧ v = .int .i64 (i : Nat) ∧ Hid (Lw w wr N ⟨op, q, lo, hi, A, n, c⟩ K ck ds' (ks.take i))) (fun v _ => n - (intOf v).toNat)
  case atStart => exact ⟨0, none, 0, [], Nat.zero_le _, rfl, L0⟩
  case round =>
    obtain ⟨i, K, ck, ds', hi1, rfl, hL⟩ := hrel
    clear x0 x1 x2 x3 x4 x5 x6 x7 L0
    obtain ⟨⟨x0, x1, x2, x3, x4, x5, x6, x7⟩, _⟩ := hL.out.arg.all
    obtain ⟨⟨o0, o1, o2, o3, o4, o5, o6, o7⟩, _⟩ := hL.out.out.all
    have hdl : ds'.length ≤ 1048576 := by have h1 := hL.out.kw.len; rw [List.length_take] at h1; omega
    by_cases hlt : i < n
    · have qi : (i : Int) < (n : Int) := by omega
      have hi2 : i < ks.length := by have := HN.out; omega
      have hi4 : i < ds.length := by have h1 := HL.out; omega
      obtain ⟨kb1, off1, rfl, hb0, hb1, hc1⟩ := HR.out (by omega)
      have hdt := List.getElem?_eq_getElem hi4
      obtain ⟨a0, a1, a2, a3, a4, a5, a6, a7⟩ := kid_cells hL.out.bel hb1 hc1 hdt
      have k1 := (HK.out i _ _ (List.getElem?_eq_getElem hi2) (List.getElem?_eq_getElem hi4)).keeps hL.out.bel
      have tk : Hid (ks.take (i + 1) = ks.take i ++ [ks[i]]) := (List.take_append_getElem hi2).symm
      have hm := List.getElem_mem hi2
      generalize ks[i] = kt at *
      generalize ds[i] = dt at *
      have dr : Below wr.heap.size wr wr.drew := (Below.refl _ _).drew
      have D1 := Lib.hid (IH.out kt hm dt N wr.drew (Nat.le_trans H0.out hL.out.bel.size) (k1.keeps dr) (HF.out.kid hm))
      have CE : Hid (∀ W : World, Below w.heap.size w W → _) := fun W hW => kid_cells hW hb1 hc1 hdt
      have L1 := Lib.hid (hL.out.to dr)
      have kbl : kb1 < w.heap.size := hb1
      have wl : w.heap.size + 2 < wr.heap.size := hL.out.size
      have q6 : IntKind.i64.wrap ((i : Int) + 1) = ((i + 1 : Nat) : Int) := by rw [IntWalk.i64_in _ (by omega)]; omega
      have kbl2 : kb1 < wr.heap.size := by omega
      have wl2 : w.heap.size < wr.heap.size := by omega
      clear hc1 k1 hi2 hi4 hb1 hb0 hm dr hL hdt
      unfold TD.val at D1
      go_wp2_with fail
      go_region_law (first
          | (go_simp; go_at_call 20; refine D1.out.mono ?_; rintro e w5 ⟨d5, rfl, hv5, hb5⟩; have V5 := Lib.hid hv5; have B5 := Lib.hid hb5; have L5 := Lib.hid (L1.out.to hb5); clear x0 x1 x2 x3 x4 x5 x6 x7 o0 o1 o2 o3 o4 o5 o6 o7 a0 a1 a2 a3 a4 a5 a6 a7 hb5 hv5; obtain ⟨⟨o0, o1, o2, o3, o4, o5, o6, o7⟩, _⟩ := L5.out.out.all; obtain ⟨⟨x0, x1, x2, x3, x4, x5, x6, x7⟩, _⟩ := L5.out.arg.all; obtain ⟨a0, a1, a2, a3, a4, a5, a6, a7⟩ := CE.out w5 L5.out.bel; have wl5 : w.heap.size + 2 < w5.heap.size := L5.out.size; have kbl5 : kb1 < w5.heap.size := (by omega); have wl6 : w.heap.size < w5.heap.size := (by omega); unfold TD.val)
          | (refine step_appT rfl _ _ rfl K ck ds' (L5.out.kw.below (below_new _ _)).own _ 1 d5 (TB.new w5 d5) hdl rfl rfl ?_; intro K6 c6 ds6 w6 hd6 ho6 hg6 hr6; have L6 : Hid (Lw w (w6.setCell ⟨w.heap.size + 1 + 1, 7, none⟩ (.slice K6 ds6.length c6)) N _ K6 c6 ds6 _) := L1.out.push H0.out B5.out V5.out hd6.out ho6 hg6 hr6; obtain ⟨t6, u6, b6⟩ := L1.out.grew B5.out hg6; clear x0 x1 x2 x3 x4 x5 x6 x7 o0 o1 o2 o3 o4 o5 o6 o7 a0 a1 a2 a3 a4 a5 a6 a7; obtain ⟨⟨o0, o1, o2, o3, o4, o5, o6, o7⟩, f0, f1, f2, f3, f4, f5, f6, f7⟩ := u6.all; obtain ⟨⟨x0, x1, x2, x3, x4, x5, x6, x7⟩, _⟩ := t6.all; obtain ⟨a0, a1, a2, a3, a4, a5, a6, a7⟩ := CE.out w6 b6; obtain ⟨⟨_, _, _, _, _, _, _, _⟩, _⟩ := L6.out.arg.all; obtain ⟨_, _, _, _, _, _, _, _⟩ := CE.out _ L6.out.bel; clear t6 u6 b6 hg6 hr6 ho6 hd6)
          | fail)
      all_goals
        rw [← tk.out] at L6
        go_wp2_with fail
        go_roundw
        case rel => exact ⟨i + 1, K6, c6, ds6, by omega, by simp, L6⟩
        case measure => simp [intOf]; omega
    · have qi : ¬ (i : Int) < (n : Int) := by omega
      have hin : i = n := by omega
      have e1 : ks.take i = ks := List.take_of_length_le (by have := HN.out; omega)
      rw [e1] at hL
      have V := Lib.hid (hL.out.kw.inS op f q lo hi HQ.out (by rw [HN.out]; omega))
      have B := Lib.hid hL.out.bel
      obtain ⟨⟨r0, r1, r2, r3, r4, r5, r6, r7⟩, g0, g1, g2, g3, g4, g5, g6, g7⟩ := hL.out.res.all
      have wl : w.heap.size + 2 < wr.heap.size := hL.out.size
      clear e1 hin hL
      go_wp2
      refine bodyPost_ret (v := TD.val ⟨op, q, lo, hi, K, ds'.length, ck⟩) ?_ rfl ?_
      · simp [results, Try.results20, go_sem, TD.val, r0, r1, r2, r3, r4, r5, r6, r7]
      · skip
        exact ⟨_, rfl, V.out.ends8 (by have := H0.out; rintro (h | h) <;> omega) (fun j hj => hj.elim .inl fun h => .inr (by omega)) _ _ _ _ _ _ _ _, bel8 B.out (Nat.le_succ _) _ _ _ _ _ _ _ _⟩
end Go.Proofs.Ytnaecagmcpndhaa
