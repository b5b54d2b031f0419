/- The walk of ShowSets. The walk of ShowSets. -/
import Derived.Test.YtegehcdjnnajcaaDoorA8
import Derived.Test.YtegehcdjnnajcaaDoorB23h
namespace Go.Proofs.YtegehcdjnnajcaaDoor
open Go.RowKit
def repT (f : Nat → Bool) (lo hi : Int) : Tm := .mk 8 noB lo hi [setT f]
theorem set_right (f : Nat → Bool) : rightT (setT f) = true := right_leaf 2 f (by omega) (by omega) (fun h => absurd rfl h)
/-- the three ways in which a set, or a repeat of one, is shown -/
def Ways (x : Tm) : Prop := showR x = ([], 1) ∨ (showR x = ([], 2) ∧ rightT x = false ∧ opOf x = 8) ∨ ∃ l t', showR x = (l, 0) ∧ parseF l = (t', 0, 0) ∧ sameT t' x = true
theorem ways_of (x : Tm) (hd : depT x ≤ 30) (ho : rightT x = false → opOf x = 8) : Ways x := by
  rcases show_ways x with ⟨c, hc, hs⟩ | ⟨_, _, _, hs, t', hp, hsm⟩
  · rcases hc with rfl | rfl | rfl
    · exact .inl hs
    · refine .inr (.inl ⟨hs, ?_⟩)
      have hr : rightT x = false := by
        rw [Bool.eq_false_iff]; intro hr
        unfold showR at hs
        rw [if_pos hr] at hs
        split at hs
        · injection hs with _ h; cases h
        · split at hs
          · injection hs with _ h; cases h
          · injection hs with _ h; cases h
      exact ⟨hr, ho hr⟩
    · exfalso
      unfold showR at hs
      split at hs
      · split at hs
        · injection hs with _ h; cases h
        · rw [if_neg (by omega)] at hs; injection hs with _ h; cases h
      · injection hs with _ h; cases h
  · exact .inr (.inr ⟨formT x, t', hs, hp, hsm⟩)
theorem ways_set (f : Nat → Bool) : Ways (setT f) := ways_of _ (by rw [setT, depT]; simp) (fun h => by rw [set_right] at h; cases h)
theorem ways_rep (f : Nat → Bool) (lo hi : Int) : Ways (repT f lo hi) := ways_of _ (by
  have e : depT (setT f) = 0 := by rw [setT, depT]; simp
  have n : needs 8 (opOf (setT f)) = false := by unfold setT opOf needs; simp
  have e3 : kidD 8 (setT f) = 0 := by unfold kidD; rw [e, n]; simp
  unfold repT
  have e2 : depT (.mk 8 noB lo hi [setT f]) = depL 8 [setT f] := by rw [depT]; simp
  rw [e2, depL_cons, e3, depL]; simp) (fun _ => rfl)
/-- the row of both -/
theorem sets_mem (q : Nat → BitVec 64) (lo hi : Int) (w : World) : ∃ W f, W = ((((w.alloc (.cells #[.int .i64 2, .int .u64 (uv (q 0)), .int .u64 (uv (q 1)), .int .u64 (uv (q 2)), .int .u64 (uv (q 3)), .int .i64 0, .int .i64 0, .slice none 0 0] 27)).alloc (.cells #[.int .i64 2, .int .u64 (uv (q 0)), .int .u64 (uv (q 1)), .int .u64 (uv (q 2)), .int .u64 (uv (q 3)), .int .i64 0, .int .i64 0, .slice none 0 0] 27)).alloc (.cells #[.int .i64 8, .int .u64 0, .int .u64 0, .int .u64 0, .int .u64 0, .int .i64 lo, .int .i64 hi, .slice (some ⟨w.heap.size + 1, 0, none⟩) 1 1] 27)).alloc (.cells #[.int .i64 2, .int .u64 (uv (q 0)), .int .u64 (uv (q 1)), .int .u64 (uv (q 2)), .int .u64 (uv (q 3)), .int .i64 0, .int .i64 0, .slice none 0 0, .int .i64 8, .int .u64 0, .int .u64 0, .int .u64 0, .int .u64 0, .int .i64 lo, .int .i64 hi, .slice (some ⟨w.heap.size + 1, 0, none⟩) 1 1] 27)) ∧ Below w.heap.size w W ∧ w.heap.size + 3 < W.heap.size ∧ RowAt W (some ⟨w.heap.size + 3, 0, none⟩) [setD q, opD 8 (some ⟨w.heap.size + 1, 0, none⟩) 1 1 lo hi] ∧ TR W (setT f) (setD q) ∧ TR W (repT f lo hi) (opD 8 (some ⟨w.heap.size + 1, 0, none⟩) 1 1 lo hi) := by
  refine ⟨_, fun i => kb q i, rfl, ?_⟩
  generalize hS : (Obj.cells #[.int .i64 2, .int .u64 (uv (q 0)), .int .u64 (uv (q 1)), .int .u64 (uv (q 2)), .int .u64 (uv (q 3)), .int .i64 0, .int .i64 0, .slice none 0 0] 27) = S
  generalize hR : (Obj.cells #[.int .i64 8, .int .u64 0, .int .u64 0, .int .u64 0, .int .u64 0, .int .i64 lo, .int .i64 hi, .slice (some ⟨w.heap.size + 1, 0, none⟩) 1 1] 27) = R
  generalize hB : (Obj.cells #[.int .i64 2, .int .u64 (uv (q 0)), .int .u64 (uv (q 1)), .int .u64 (uv (q 2)), .int .u64 (uv (q 3)), .int .i64 0, .int .i64 0, .slice none 0 0, .int .i64 8, .int .u64 0, .int .u64 0, .int .u64 0, .int .u64 0, .int .i64 lo, .int .i64 hi, .slice (some ⟨w.heap.size + 1, 0, none⟩) 1 1] 27) = B
  have b1 := below_new w S
  have b2 := below_new (w.alloc S) S
  have b3 := below_new ((w.alloc S).alloc S) R
  have b4 := below_new (((w.alloc S).alloc S).alloc R) B
  have b14 := ((b1.trans (b2.mono b1.size)).trans (b3.mono (Nat.le_trans b1.size b2.size))).trans (b4.mono (Nat.le_trans b1.size (Nat.le_trans b2.size b3.size)))
  have h1 : ((((w.alloc S).alloc S).alloc R).alloc B).heap[w.heap.size + 1]? = some S := by
    rw [b4.block _ (by simp), b3.block _ (by simp)]
    have := heap_alloc_new (w.alloc S) S
    rw [World.size_alloc] at this; exact this
  have h3 : ((((w.alloc S).alloc S).alloc R).alloc B).heap[w.heap.size + 3]? = some B := by
    have := heap_alloc_new (((w.alloc S).alloc S).alloc R) B
    rw [World.size_alloc, World.size_alloc, World.size_alloc] at this; exact this
  refine ⟨b14, by simp, ?_⟩
  generalize (((w.alloc S).alloc S).alloc R).alloc B = W at *
  have tS : TR W (setT fun i => kb q i) (setD q) := setD_tr fun i _ => rfl
  have r1 : RowAt W (some ⟨w.heap.size + 1, 0, none⟩) [setD q] := row_lit (h1.trans (congrArg some hS.symm)) [setD q] rfl
  refine ⟨row_lit (h3.trans (congrArg some hB.symm)) [setD q, opD 8 (some ⟨w.heap.size + 1, 0, none⟩) 1 1 lo hi] rfl, tS, ?_⟩
  exact opD_tr _ _ rfl (by simp) (fun i t d ht hd => by
    match i with
    | 0 =>
      obtain rfl : setT (fun i => kb q i) = t := by simpa using ht
      obtain rfl : setD q = d := by simpa using hd
      exact tS
    | i + 1 => simp at ht) r1
end Go.Proofs.YtegehcdjnnajcaaDoor
namespace Go.Proofs.YtegehcdjnnajcaaDoor
open Go.RowKit
theorem TR.op {w : World} {t : Tm} {d : TD} (h : TR w t d) : d.op = opOf t := by cases h with | mk => rfl
set_option maxRecDepth 100000 in
set_option maxHeartbeats 8000000 in
theorem sets_walk0 (HRT0 : ∀ (t : Tm) (d : TD) (w : World), TR w t d → Calls Tryd.prog 15 #[d.val] w (Tells w (.bool (rightT t)))) (q : Nat → BitVec 64) (lo hi : Int) (w : World) (hp : Pow w) : Calls Tryd.prog 6 #[.agg (cw q), .int .i64 lo, .int .i64 hi] w (Tells w (.bool true)) := by
  have HRT := Lib.hid HRT0
  clear HRT0
  have nb := below_new w (.cells (cw q) 24)
  have D1 := Lib.hid (speaks6_any _ (hp.below nb))
  have C1 := Lib.hid (CB.new w q)
  have B1 := Lib.hid nb
  have P1 := Lib.hid (hp.below nb)
  have hsz : (w.alloc (.cells (cw q) 24)).heap.size = w.heap.size + 1 := by simp
  have HZ := Lib.hid hsz
  clear hp nb hsz
  unfold cw at D1 C1 B1 P1 HZ ⊢
  go_enter Tryd.func6, Tryd.ntmps6
  go_wp2_with fail
  refine D1.out.mono ?_
  rintro e w2 ⟨rfl, hb2⟩
  have C2 : Hid (CB w2 w.heap.size q) := by
    have := C1.out.below (B := w.heap.size + 1) (by have := hb2; rw [HZ.out] at this; exact this) (by omega)
    exact this
  have B2 := Lib.hid (B1.out.trans (hb2.mono B1.out.size))
  have P2 := step_pow P1 hb2
  have y0 := C2.out.cell 0 (by omega); have y1 := C2.out.cell 1 (by omega); have y2 := C2.out.cell 2 (by omega); have y3 := C2.out.cell 3 (by omega)
  have lt2 := C2.out.lt
  obtain ⟨W, f, hW, hbW, hltW, hrow, hts, htr⟩ := sets_mem q lo hi w2
  have HW := Lib.hid hW
  have PW := Lib.hid (P2.out.below hbW)
  have BW := Lib.hid (B2.out.trans (hbW.mono B2.out.size))
  have RW := Lib.hid hrow; have TS := Lib.hid hts; have TP := Lib.hid htr; have LW := Lib.hid hltW
  clear D1 C1 B1 P1 hb2 hW hbW hltW hrow hts htr HZ
  go_wp2_with fail
  rw [← HW.out]
  clear y0 y1 y2 y3 lt2 C2 B2 P2 HW
  go_loopw [29] (fun v wr => ∃ (i : Nat), i ≤ 2 ∧ v = .int .i64 (i : Nat) ∧ Hid (Below W.heap.size W wr)) (fun v _ => 2 - (intOf v).toNat)
  case atStart => exact ⟨0, by omega, rfl, Lib.hid (Below.refl _ _)⟩
  case round =>
    obtain ⟨i, hi1, rfl, hB⟩ := hrel
    by_cases hlt : i < 2
    · have qi : (i : Int) < 2 := by omega
      obtain ⟨x, d, hd, htx, hwx⟩ : ∃ x d, [setD q, opD 8 (some ⟨w2.heap.size + 1, 0, none⟩) 1 1 lo hi][i]? = some d ∧ TR W x d ∧ Ways x := by
        rcases (by omega : i = 0 ∨ i = 1) with rfl | rfl
        · exact ⟨_, _, rfl, TS.out, ways_set f⟩
        · exact ⟨_, _, rfl, TP.out, ways_rep f lo hi⟩
      obtain ⟨b, off, eA, hb, hc⟩ := RW.out (by simp)
      injection eA with eA
      injection eA with e1 e2
      subst e1 e2
      obtain ⟨a0, a1, a2, a3, a4, a5, a6, a7⟩ := kid_cells hB.out hb hc hd
      rw [Nat.zero_add] at a0 a1 a2 a3 a4 a5 a6 a7
      have bl : w2.heap.size + 3 < wr.heap.size := Nat.lt_of_lt_of_le hb hB.out.size
      have bl2 : w2.heap.size + 1 + 1 + 1 < wr.heap.size := bl
      have C3 := Lib.hid (Ck.new (BW.out.trans (hB.out.mono BW.out.size)) (htx.keeps hB.out) (PW.out.below hB.out))
      have nb3 := below_new wr (.cells d.cells 27)
      have B3 : Hid (Below W.heap.size W (wr.alloc (.cells d.cells 27))) := hB.out.trans (nb3.mono hB.out.size)
      have D3 := show_any x d _ C3.out.tr C3.out.pow
      have hop := htx.op
      have q6 : IntKind.i64.wrap ((i : Int) + 1) = ((i + 1 : Nat) : Int) := by rw [IntWalk.i64_in _ (by omega)]; omega
      obtain ⟨⟨x0, x1, x2, x3, x4, x5, x6, x7⟩, -⟩ := C3.out.tb.all
      unfold TD.cells TD.val at D3
      unfold TD.cells at C3 B3 x0 x1 x2 x3 x4 x5 x6 x7
      have a0 : wr.cell? ⟨w2.heap.size + 1 + 1 + 1, i * 8, none⟩ = _ := a0
      have a1 : wr.cell? ⟨w2.heap.size + 1 + 1 + 1, i * 8 + 1, none⟩ = _ := a1
      have a2 : wr.cell? ⟨w2.heap.size + 1 + 1 + 1, i * 8 + 2, none⟩ = _ := a2
      have a3 : wr.cell? ⟨w2.heap.size + 1 + 1 + 1, i * 8 + 3, none⟩ = _ := a3
      have a4 : wr.cell? ⟨w2.heap.size + 1 + 1 + 1, i * 8 + 4, none⟩ = _ := a4
      have a5 : wr.cell? ⟨w2.heap.size + 1 + 1 + 1, i * 8 + 5, none⟩ = _ := a5
      have a6 : wr.cell? ⟨w2.heap.size + 1 + 1 + 1, i * 8 + 6, none⟩ = _ := a6
      have a7 : wr.cell? ⟨w2.heap.size + 1 + 1 + 1, i * 8 + 7, none⟩ = _ := a7
      have HOP := Lib.hid hop
      clear hb hc hd nb3 hB htx hop
      rcases hwx with hs | ⟨hs, hr, ho⟩ | ⟨l, t', hs, hpf, hsm⟩
      · rw [hs] at D3
        have D3 := Lib.hid D3
        clear hs HOP HRT TS TP RW
        go_wp2_with fail
        refine D3.out.mono ?_
        rintro e w4 ⟨A4, c4, rfl, hB4, hb4⟩
        have B4 : Hid (Below W.heap.size W w4) := B3.out.trans (hb4.mono B3.out.size)
        clear D3 hB4 hb4 C3 B3 x0 x1 x2 x3 x4 x5 x6 x7 a0 a1 a2 a3 a4 a5 a6 a7 bl bl2
        go_wp2_with fail
        go_roundw
        case rel => exact ⟨i + 1, by omega, by simp, B4⟩
        case measure => simp [intOf]; omega
      · rw [hs] at D3
        have D3 := Lib.hid D3
        have hop8 : Hid (d.op = 8) := HOP.out.trans ho
        have D4 : Hid (∀ V, Hid (Ck w V wr.heap.size x d) → Calls Tryd.prog 15 #[d.val] V (Tells V (.bool false))) := fun V h => by
          have := HRT.out x d V h.out.tr
          rw [hr] at this; exact this
        unfold TD.val at D4
        clear hs hr ho HOP HRT TS TP RW
        go_wp2_with fail
        refine D3.out.mono ?_
        rintro e w4 ⟨A4, c4, rfl, hB4, hb4⟩
        have B4 : Hid (Below W.heap.size W w4) := B3.out.trans (hb4.mono B3.out.size)
        have C4 := step_ck C3 hb4
        clear D3 hB4 hb4 C3 B3 x0 x1 x2 x3 x4 x5 x6 x7 a0 a1 a2 a3 a4 a5 a6 a7 bl bl2
        have D5 := Lib.hid (D4.out w4 C4)
        obtain ⟨⟨x0, x1, x2, x3, x4, x5, x6, x7⟩, -⟩ := C4.out.tb.all
        rw [hop8.out] at x0
        rw [hop8.out] at D5
        clear D4
        go_wp2_with fail
        refine D5.out.mono ?_
        rintro e w5 ⟨rfl, hb5⟩
        have B5 : Hid (Below W.heap.size W w5) := B4.out.trans (hb5.mono B4.out.size)
        clear D5 hb5 C4 B4 x0 x1 x2 x3 x4 x5 x6 x7
        go_wp2_with fail
        go_roundw
        case rel => exact ⟨i + 1, by omega, by simp, B5⟩
        case measure => simp [intOf]; omega
      · rw [hs] at D3
        have D3 := Lib.hid D3
        have S := Lib.hid hsm
        have PF := Lib.hid hpf
        clear hs hsm hpf HOP HRT TS TP RW
        go_wp2_with fail
        refine D3.out.mono ?_
        rintro e w4 ⟨A4, c4, rfl, hB4, hb4⟩
        have B4 : Hid (Below W.heap.size W w4) := B3.out.trans (hb4.mono B3.out.size)
        have C4 := step_ck C3 hb4
        have D5 := parse_any A4 c4 l w4 hB4
        rw [PF.out] at D5
        have D5 := Lib.hid D5
        clear D3 hB4 hb4 C3 B3 x0 x1 x2 x3 x4 x5 x6 x7 a0 a1 a2 a3 a4 a5 a6 a7 bl bl2
        go_wp2_with fail
        refine D5.out.mono ?_
        rintro e w5 ⟨d5, rfl, hv5, hb5⟩
        have C5 := step_ck C4 hb5
        have K5 := Lib.hid (Ck.new C5.out.bel hv5.tr C5.out.pow)
        have nb5 := below_new w5 (.cells d5.cells 27)
        have C5 := step_ck C5 nb5
        have B5 : Hid (Below W.heap.size W (w5.alloc (.cells d5.cells 27))) := B4.out.trans ((hb5.trans (nb5.mono hb5.size)).mono B4.out.size)
        have D6 := same_any t' x d5 d _ K5.out.tr C5.out.tr
        rw [S.out] at D6
        obtain ⟨⟨x0, x1, x2, x3, x4, x5, x6, x7⟩, -⟩ := C5.out.tb.all
        obtain ⟨⟨y0, y1, y2, y3, y4, y5, y6, y7⟩, -⟩ := K5.out.tb.all
        have lt5 := C5.out.tb.lt
        have lt6 := K5.out.tb.lt
        unfold TD.val TD.cells at D6
        unfold TD.cells at C5 K5 B5 x0 x1 x2 x3 x4 x5 x6 x7 y0 y1 y2 y3 y4 y5 y6 y7 lt5 lt6
        have D6 := Lib.hid D6
        clear C4 D5 hb5 hv5 B4 nb5
        unfold TD.val
        go_wp2_with fail
        refine D6.out.mono ?_
        rintro e w6 ⟨rfl, hb6⟩
        have B6 : Hid (Below W.heap.size W w6) := B5.out.trans (hb6.mono B5.out.size)
        clear C5 K5 B5 D6 hb6 x0 x1 x2 x3 x4 x5 x6 x7 y0 y1 y2 y3 y4 y5 y6 y7 lt5 lt6
        go_wp2_with fail
        go_roundw
        case rel => exact ⟨i + 1, by omega, by simp, B6⟩
        case measure => simp [intOf]; omega
    · have qi : ¬ (i : Int) < 2 := by omega
      obtain rfl : i = 2 := by omega
      go_wp2
      go_ret
      exact ⟨rfl, BW.out.trans (hB.out.mono BW.out.size)⟩
end Go.Proofs.YtegehcdjnnajcaaDoor
