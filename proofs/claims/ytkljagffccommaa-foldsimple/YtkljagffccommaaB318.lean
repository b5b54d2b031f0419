/- The document's form of a term. -/
import Derived.Test.YtkljagffccommaaG45
namespace Go.Proofs.Ytkljagffccommaa
open Go.RowKit
set_option maxRecDepth 100000 in
set_option maxHeartbeats 8000000 in
theorem formR_8 (f : Nat → Bool) (lo hi : Int) (ks : List Tm) (d : TD) (w : World) (hr0 : rightT (.mk 8 f lo hi ks) = true) (hz : szT (.mk 8 f lo hi ks) ≤ 500) (ht : TR w (.mk 8 f lo hi ks) d) (ih : ∀ k ∈ ks, rightT k = true → szT k ≤ 500 → ∀ (d : TD) (w : World), TR w k d → Calls Try.prog 59 #[d.val] w (FormR w k)) : Calls Try.prog 59 #[d.val] w (FormR w (.mk 8 f lo hi ks)) := by
  cases ht with
  | mk _ _ _ _ _ q A c ds hq hl hn hk hr =>
  have RI := Lib.hid (right_is hr0)
  have HZ : Hid (1 + szL ks ≤ 500) := by rw [szT] at hz; exact hz
  have b1 := below_new w (.cells #[.int .i64 8, .int .u64 (uv (q 0)), .int .u64 (uv (q 1)), .int .u64 (uv (q 2)), .int .u64 (uv (q 3)), .int .i64 lo, .int .i64 hi, .slice A ks.length c] 29)
  have b2 := below_new (w.alloc (.cells #[.int .i64 8, .int .u64 (uv (q 0)), .int .u64 (uv (q 1)), .int .u64 (uv (q 2)), .int .u64 (uv (q 3)), .int .i64 lo, .int .i64 hi, .slice A ks.length c] 29)) (.cells #[.string ⟨#[]⟩, .string ⟨#[]⟩, .string ⟨#[]⟩, .string ⟨#[46]⟩, .string ⟨#[94]⟩, .string ⟨#[36]⟩] 97)
  have B1 := Lib.hid (b1.trans (b2.mono b1.size))
  have T1 := Lib.hid (TB.below (TB.new w ⟨8, q, lo, hi, A, ks.length, c⟩) b2)
  unfold TD.cells at T1
  have OUT : Hid (∀ l W', Eith l (formL 8 ks true ++ quantOf lo hi) → l.length ≤ 2000 * szL ks + 18 → (∀ x ∈ l, x < 256) → Below w.heap.size w W' → FormR w (.mk 8 f lo hi ks) (.returned (.string (strC l))) W') := fun l W' he hl hb hW => by
    have e : formT (.mk 8 f lo hi ks) = formL 8 ks true ++ quantOf lo hi := by rw [formT]; simp
    exact ⟨l, rfl, by rw [e]; exact he, by rw [szT]; omega, hb, hW⟩
  obtain ⟨n, hnn⟩ : ∃ n, ks.length = n := ⟨_, rfl⟩
  rw [hnn] at hn T1 B1 ⊢
  have IH := Lib.hid ih; have HK := Lib.hid hk; have HR := Lib.hid hr; have HL := Lib.hid hl; have HN := Lib.hid hnn
  obtain ⟨⟨x0, x1, x2, x3, x4, x5, x6, x7⟩, -⟩ := T1.out.all
  clear ih hk hr hl hnn hq b1 b2 hz hr0
  unfold TD.val
  have S0 : Hid (strC [] = ⟨#[]⟩) := by show strC [] = _; kernel_rfl
  go_enter Try.func59, Try.ntmps59
  go_wp2_with fail
  rw [← S0.out]
  go_loopw [4, 5] (fun u v wr => ∃ (i : Nat) (l : List Nat), i ≤ n ∧ u = .string (strC l) ∧ v = .int .i64 (i : Nat) ∧ Hid (Eith l (formL 8 (ks.take i) true) ∧ l.length ≤ 2000 * szL (ks.take i) ∧ ∀ x ∈ l, x < 256) ∧ Hid (TB wr w.heap.size ⟨8, q, lo, hi, A, n, c⟩) ∧ Hid (Below w.heap.size w wr)) (fun _ v _ => n - (intOf v).toNat)
  case atStart => exact ⟨0, [], Nat.zero_le _, rfl, rfl, ⟨by rw [List.take_zero, formL]; exact .refl _, by simp, fun x hx => by simp at hx⟩, T1, B1⟩
  case round =>
    obtain ⟨i, l, hi1, rfl, rfl, hE, hT, hB⟩ := hrel
    clear x0 x1 x2 x3 x4 x5 x6 x7 T1 B1 S0
    obtain ⟨⟨x0, x1, x2, x3, x4, x5, x6, x7⟩, -⟩ := hT.out.all
    have tl := hT.out.lt
    have hsz := strC_size l
    by_cases hlt : i < n
    · have qi : (i : Int) < (n : Int) := by omega
      have hi2 : i < ks.length := by have := HN.out; omega
      have hi4 : i < ds.length := by have h1 := HL.out; omega
      by_cases hlen : l.length < 1000
      · have ql : ((strC l).size : Int) < 1000 := by omega
        obtain ⟨kb1, off1, rfl, hb1, hc1⟩ := HR.out (by omega)
        obtain ⟨a0, a1, a2, a3, a4, a5, a6, a7⟩ := kid_cells hB.out hb1 hc1 (List.getElem?_eq_getElem hi4)
        have k1 := (HK.out i _ _ (List.getElem?_eq_getElem hi2) (List.getElem?_eq_getElem hi4)).keeps hB.out
        have hm := List.getElem_mem hi2
        have kbl : kb1 < wr.heap.size := Nat.lt_of_lt_of_le hb1 hB.out.size
        have hks := szL_mem ks _ hm
        have kr := RI.out.kids _ hm
        have SN : Hid (formL 8 (ks.take (i + 1)) true = formL 8 (ks.take i) true ++ ((if (8 : Int) = 7 ∧ (true = false ∨ 0 < (ks.take i).length) then [124] else []) ++ kidF 8 ks[i])) := by
          show formL 8 (ks.take (i + 1)) true = _
          rw [List.take_succ_eq_append_getElem hi2, formL_snoc]
        have SZ : Hid (szL (ks.take (i + 1)) = szL (ks.take i) + szT ks[i]) := by
          show szL (ks.take (i + 1)) = _
          rw [List.take_succ_eq_append_getElem hi2, szL_snoc]
        have TL : Hid ((ks.take i).length = i) := by
          show (ks.take i).length = i
          rw [List.length_take]; omega
        have hop : ds[i].op = opOf ks[i] := (HK.out i _ _ (List.getElem?_eq_getElem hi2) (List.getElem?_eq_getElem hi4)).op
        have o1 : 1 ≤ opOf ks[i] ∧ opOf ks[i] ≤ 8 := by
          revert kr
          generalize ks[i] = kt
          obtain ⟨o, f1, l1, h1, kk⟩ := kt
          intro kr
          have R := right_is kr
          exact ⟨R.op1, R.op8⟩
        generalize ks[i] = kt at *
        generalize ds[i] = dt at *
        have nb := below_new wr (.cells dt.cells 29)
        have D1 := IH.out kt hm kr (by have := HZ.out; omega) dt _ (k1.keeps nb)
        have KT := Lib.hid (TB.new wr dt)
        have T2 := Lib.hid (TB.below hT.out nb)
        have B2 := Lib.hid (hB.out.trans (nb.mono hB.out.size))
        have q6 : IntKind.i64.wrap ((i : Int) + 1) = ((i + 1 : Nat) : Int) := by rw [IntWalk.i64_in _ (by omega)]; omega
        have HLL := Lib.hid (And.intro hlen hsz)
        have HKS : Hid (szT kt ≤ 500) := by have h1 := HZ.out; show szT kt ≤ 500; omega
        obtain ⟨op', qd, lod, hid', Ad, nd, cd⟩ := dt
        change op' = opOf kt at hop
        unfold TD.cells TD.val at D1
        unfold TD.cells at KT T2 B2
        simp only at D1 KT T2 B2 a0 a1 a2 a3 a4 a5 a6 a7
        have KO := Lib.hid hop
        have ko : op' = 1 ∨ op' = 2 ∨ op' = 3 ∨ op' = 4 ∨ op' = 5 ∨ op' = 6 ∨ op' = 7 ∨ op' = 8 := by omega
        have D1 := Lib.hid D1
        clear hc1 k1 hi2 hi4 hb1 hm nb hT hB hks kr hop o1 hlen hsz
        have FIN : Hid (∀ (lf sep kf : List Nat), Eith lf (formT kt) → lf.length + 100 ≤ 2000 * szT kt → (∀ x ∈ lf, x < 256) → (sep = if (8 : Int) = 7 ∧ 0 < i then [124] else []) → (kf = if needs 8 (opOf kt) = true then 40 :: (lf ++ [41]) else lf) → Eith (l ++ sep ++ kf) (formL 8 (ks.take (i + 1)) true) ∧ (l ++ sep ++ kf).length ≤ 2000 * szL (ks.take (i + 1)) ∧ ∀ x ∈ l ++ sep ++ kf, x < 256) := fun lf sep kf h1 h2 h3 hs hkf => by
          obtain ⟨e1, e2, e3⟩ := hE.out
          have hsep : (if (8 : Int) = 7 ∧ (true = false ∨ 0 < (ks.take i).length) then [124] else []) = sep := by
            rw [hs, TL.out]; simp
          have hk2 : Eith kf (kidF 8 kt) := by
            rw [hkf]; unfold kidF
            split
            · exact (Eith.refl [40]).app (h1.app (Eith.refl [41]))
            · exact h1
          have hkl : kf.length ≤ lf.length + 2 := by
            rw [hkf]; split
            · simp
            · omega
          have hsl : sep.length ≤ 1 := by rw [hs]; split <;> simp
          refine ⟨?_, ?_, ?_⟩
          · rw [SN.out, hsep, ← List.append_assoc]
            exact (e1.app (Eith.refl sep)).app hk2
          · rw [SZ.out, List.length_append, List.length_append]; omega
          · intro x hx
            rw [List.mem_append, List.mem_append] at hx
            rcases hx with (hx | hx) | hx
            · exact e3 x hx
            · rw [hs] at hx; split at hx
              · simp at hx; omega
              · simp at hx
            · rw [hkf] at hx; split at hx
              · simp only [List.mem_cons, List.mem_append, List.not_mem_nil, or_false] at hx
                rcases hx with rfl | hx | rfl
                · omega
                · exact h3 x hx
                · omega
              · exact h3 x hx
        clear SN SZ TL hE
        rcases ko with rfl | rfl | rfl | rfl | rfl | rfl | rfl | rfl
        · go_wp2_with fail
          refine D1.out.mono ?_
          rintro e w5 ⟨lf, rfl, h1, h2, h3, hb5⟩
          have F := FIN.out lf [] (40 :: (lf ++ [41])) h1 h2 h3 (by rw [if_neg (by omega)]) (by rw [← KO.out]; rfl)
          have T5 := Lib.hid (T2.out.below hb5)
          have B5 := Lib.hid (B2.out.trans (hb5.mono B2.out.size))
          have K5 := Lib.hid (KT.out.below hb5)
          have zl : (strC l).size < 1000 := by have := HLL.out; omega
          have zf : (strC lf).size ≤ 1000000 := by rw [strC_size]; have := HKS.out; omega
          have zs : (strC l).size ≤ 1001 := by omega
          have qk := fun W => run_string_add_sum (P := Try.prog) W ⟨#[40]⟩ (strC lf) (by show 1 + _ ≤ _; omega)
          have zk : (⟨#[40]⟩ ++ strC lf).size ≤ 1000001 := by rw [ByteArray.size_append]; show 1 + _ ≤ _; omega
          have qk2 := fun W => run_string_add_sum (P := Try.prog) W (⟨#[40]⟩ ++ strC lf) ⟨#[41]⟩ (by show _ + 1 ≤ _; omega)
          have zk2 : (⟨#[40]⟩ ++ strC lf ++ ⟨#[41]⟩).size ≤ 1000002 := by rw [ByteArray.size_append]; show _ + 1 ≤ _; omega
          have qa := fun W => run_string_add_sum (P := Try.prog) W (strC l) (⟨#[40]⟩ ++ strC lf ++ ⟨#[41]⟩) (by omega)
          clear zk zk2
          have EQ : Hid ((strC l) ++ (⟨#[40]⟩ ++ strC lf ++ ⟨#[41]⟩) = strC (l ++ [] ++ (40 :: (lf ++ [41])))) := by
            show _ = _
            rw [show (⟨#[40]⟩ : ByteArray) = strC [40] by kernel_rfl, show (⟨#[41]⟩ : ByteArray) = strC [41] by kernel_rfl]
            simp only [strC_app]
            congr 1
            all_goals simp
          have FF := Lib.hid F
          clear x0 x1 x2 x3 x4 x5 x6 x7 a0 a1 a2 a3 a4 a5 a6 a7 tl kbl
          obtain ⟨⟨y0, y1, y2, y3, y4, y5, y6, y7⟩, -⟩ := K5.out.all
          obtain ⟨⟨x0, x1, x2, x3, x4, x5, x6, x7⟩, -⟩ := T5.out.all
          have tl5 := T5.out.lt
          have kl5 := K5.out.lt
          generalize strC l = s0 at *
          generalize strC lf = sf at *
          clear D1 h1 h2 h3 hb5 F zl zf zs T2 B2 KT FIN HLL
          go_wp2_with fail
          go_roundw
          case rel => exact ⟨i + 1, l ++ [] ++ (40 :: (lf ++ [41])), by omega, by rw [EQ.out], by simp, FF, T5, B5⟩
          case measure => simp [intOf]; omega
        · go_wp2_with fail
          refine D1.out.mono ?_
          rintro e w5 ⟨lf, rfl, h1, h2, h3, hb5⟩
          have F := FIN.out lf [] lf h1 h2 h3 (by rw [if_neg (by omega)]) (by rw [← KO.out]; rfl)
          have T5 := Lib.hid (T2.out.below hb5)
          have B5 := Lib.hid (B2.out.trans (hb5.mono B2.out.size))
          have K5 := Lib.hid (KT.out.below hb5)
          have zl : (strC l).size < 1000 := by have := HLL.out; omega
          have zf : (strC lf).size ≤ 1000000 := by rw [strC_size]; have := HKS.out; omega
          have zs : (strC l).size ≤ 1001 := by omega
          have qa := fun W => run_string_add_sum (P := Try.prog) W (strC l) (strC lf) (by omega)
          have EQ : Hid ((strC l) ++ strC lf = strC (l ++ [] ++ lf)) := by
            show _ = _
            simp only [strC_app]
            congr 1
            all_goals simp
          have FF := Lib.hid F
          clear x0 x1 x2 x3 x4 x5 x6 x7 a0 a1 a2 a3 a4 a5 a6 a7 tl kbl
          obtain ⟨⟨y0, y1, y2, y3, y4, y5, y6, y7⟩, -⟩ := K5.out.all
          obtain ⟨⟨x0, x1, x2, x3, x4, x5, x6, x7⟩, -⟩ := T5.out.all
          have tl5 := T5.out.lt
          have kl5 := K5.out.lt
          generalize strC l = s0 at *
          generalize strC lf = sf at *
          clear D1 h1 h2 h3 hb5 F zl zf zs T2 B2 KT FIN HLL
          go_wp2_with fail
          go_roundw
          case rel => exact ⟨i + 1, l ++ [] ++ lf, by omega, by rw [EQ.out], by simp, FF, T5, B5⟩
          case measure => simp [intOf]; omega
        · go_wp2_with fail
          refine D1.out.mono ?_
          rintro e w5 ⟨lf, rfl, h1, h2, h3, hb5⟩
          have F := FIN.out lf [] lf h1 h2 h3 (by rw [if_neg (by omega)]) (by rw [← KO.out]; rfl)
          have T5 := Lib.hid (T2.out.below hb5)
          have B5 := Lib.hid (B2.out.trans (hb5.mono B2.out.size))
          have K5 := Lib.hid (KT.out.below hb5)
          have zl : (strC l).size < 1000 := by have := HLL.out; omega
          have zf : (strC lf).size ≤ 1000000 := by rw [strC_size]; have := HKS.out; omega
          have zs : (strC l).size ≤ 1001 := by omega
          have qa := fun W => run_string_add_sum (P := Try.prog) W (strC l) (strC lf) (by omega)
          have EQ : Hid ((strC l) ++ strC lf = strC (l ++ [] ++ lf)) := by
            show _ = _
            simp only [strC_app]
            congr 1
            all_goals simp
          have FF := Lib.hid F
          clear x0 x1 x2 x3 x4 x5 x6 x7 a0 a1 a2 a3 a4 a5 a6 a7 tl kbl
          obtain ⟨⟨y0, y1, y2, y3, y4, y5, y6, y7⟩, -⟩ := K5.out.all
          obtain ⟨⟨x0, x1, x2, x3, x4, x5, x6, x7⟩, -⟩ := T5.out.all
          have tl5 := T5.out.lt
          have kl5 := K5.out.lt
          generalize strC l = s0 at *
          generalize strC lf = sf at *
          clear D1 h1 h2 h3 hb5 F zl zf zs T2 B2 KT FIN HLL
          go_wp2_with fail
          go_roundw
          case rel => exact ⟨i + 1, l ++ [] ++ lf, by omega, by rw [EQ.out], by simp, FF, T5, B5⟩
          case measure => simp [intOf]; omega
        · go_wp2_with fail
          refine D1.out.mono ?_
          rintro e w5 ⟨lf, rfl, h1, h2, h3, hb5⟩
          have F := FIN.out lf [] lf h1 h2 h3 (by rw [if_neg (by omega)]) (by rw [← KO.out]; rfl)
          have T5 := Lib.hid (T2.out.below hb5)
          have B5 := Lib.hid (B2.out.trans (hb5.mono B2.out.size))
          have K5 := Lib.hid (KT.out.below hb5)
          have zl : (strC l).size < 1000 := by have := HLL.out; omega
          have zf : (strC lf).size ≤ 1000000 := by rw [strC_size]; have := HKS.out; omega
          have zs : (strC l).size ≤ 1001 := by omega
          have qa := fun W => run_string_add_sum (P := Try.prog) W (strC l) (strC lf) (by omega)
          have EQ : Hid ((strC l) ++ strC lf = strC (l ++ [] ++ lf)) := by
            show _ = _
            simp only [strC_app]
            congr 1
            all_goals simp
          have FF := Lib.hid F
          clear x0 x1 x2 x3 x4 x5 x6 x7 a0 a1 a2 a3 a4 a5 a6 a7 tl kbl
          obtain ⟨⟨y0, y1, y2, y3, y4, y5, y6, y7⟩, -⟩ := K5.out.all
          obtain ⟨⟨x0, x1, x2, x3, x4, x5, x6, x7⟩, -⟩ := T5.out.all
          have tl5 := T5.out.lt
          have kl5 := K5.out.lt
          generalize strC l = s0 at *
          generalize strC lf = sf at *
          clear D1 h1 h2 h3 hb5 F zl zf zs T2 B2 KT FIN HLL
          go_wp2_with fail
          go_roundw
          case rel => exact ⟨i + 1, l ++ [] ++ lf, by omega, by rw [EQ.out], by simp, FF, T5, B5⟩
          case measure => simp [intOf]; omega
        · go_wp2_with fail
          refine D1.out.mono ?_
          rintro e w5 ⟨lf, rfl, h1, h2, h3, hb5⟩
          have F := FIN.out lf [] lf h1 h2 h3 (by rw [if_neg (by omega)]) (by rw [← KO.out]; rfl)
          have T5 := Lib.hid (T2.out.below hb5)
          have B5 := Lib.hid (B2.out.trans (hb5.mono B2.out.size))
          have K5 := Lib.hid (KT.out.below hb5)
          have zl : (strC l).size < 1000 := by have := HLL.out; omega
          have zf : (strC lf).size ≤ 1000000 := by rw [strC_size]; have := HKS.out; omega
          have zs : (strC l).size ≤ 1001 := by omega
          have qa := fun W => run_string_add_sum (P := Try.prog) W (strC l) (strC lf) (by omega)
          have EQ : Hid ((strC l) ++ strC lf = strC (l ++ [] ++ lf)) := by
            show _ = _
            simp only [strC_app]
            congr 1
            all_goals simp
          have FF := Lib.hid F
          clear x0 x1 x2 x3 x4 x5 x6 x7 a0 a1 a2 a3 a4 a5 a6 a7 tl kbl
          obtain ⟨⟨y0, y1, y2, y3, y4, y5, y6, y7⟩, -⟩ := K5.out.all
          obtain ⟨⟨x0, x1, x2, x3, x4, x5, x6, x7⟩, -⟩ := T5.out.all
          have tl5 := T5.out.lt
          have kl5 := K5.out.lt
          generalize strC l = s0 at *
          generalize strC lf = sf at *
          clear D1 h1 h2 h3 hb5 F zl zf zs T2 B2 KT FIN HLL
          go_wp2_with fail
          go_roundw
          case rel => exact ⟨i + 1, l ++ [] ++ lf, by omega, by rw [EQ.out], by simp, FF, T5, B5⟩
          case measure => simp [intOf]; omega
        · go_wp2_with fail
          refine D1.out.mono ?_
          rintro e w5 ⟨lf, rfl, h1, h2, h3, hb5⟩
          have F := FIN.out lf [] (40 :: (lf ++ [41])) h1 h2 h3 (by rw [if_neg (by omega)]) (by rw [← KO.out]; rfl)
          have T5 := Lib.hid (T2.out.below hb5)
          have B5 := Lib.hid (B2.out.trans (hb5.mono B2.out.size))
          have K5 := Lib.hid (KT.out.below hb5)
          have zl : (strC l).size < 1000 := by have := HLL.out; omega
          have zf : (strC lf).size ≤ 1000000 := by rw [strC_size]; have := HKS.out; omega
          have zs : (strC l).size ≤ 1001 := by omega
          have qk := fun W => run_string_add_sum (P := Try.prog) W ⟨#[40]⟩ (strC lf) (by show 1 + _ ≤ _; omega)
          have zk : (⟨#[40]⟩ ++ strC lf).size ≤ 1000001 := by rw [ByteArray.size_append]; show 1 + _ ≤ _; omega
          have qk2 := fun W => run_string_add_sum (P := Try.prog) W (⟨#[40]⟩ ++ strC lf) ⟨#[41]⟩ (by show _ + 1 ≤ _; omega)
          have zk2 : (⟨#[40]⟩ ++ strC lf ++ ⟨#[41]⟩).size ≤ 1000002 := by rw [ByteArray.size_append]; show _ + 1 ≤ _; omega
          have qa := fun W => run_string_add_sum (P := Try.prog) W (strC l) (⟨#[40]⟩ ++ strC lf ++ ⟨#[41]⟩) (by omega)
          clear zk zk2
          have EQ : Hid ((strC l) ++ (⟨#[40]⟩ ++ strC lf ++ ⟨#[41]⟩) = strC (l ++ [] ++ (40 :: (lf ++ [41])))) := by
            show _ = _
            rw [show (⟨#[40]⟩ : ByteArray) = strC [40] by kernel_rfl, show (⟨#[41]⟩ : ByteArray) = strC [41] by kernel_rfl]
            simp only [strC_app]
            congr 1
            all_goals simp
          have FF := Lib.hid F
          clear x0 x1 x2 x3 x4 x5 x6 x7 a0 a1 a2 a3 a4 a5 a6 a7 tl kbl
          obtain ⟨⟨y0, y1, y2, y3, y4, y5, y6, y7⟩, -⟩ := K5.out.all
          obtain ⟨⟨x0, x1, x2, x3, x4, x5, x6, x7⟩, -⟩ := T5.out.all
          have tl5 := T5.out.lt
          have kl5 := K5.out.lt
          generalize strC l = s0 at *
          generalize strC lf = sf at *
          clear D1 h1 h2 h3 hb5 F zl zf zs T2 B2 KT FIN HLL
          go_wp2_with fail
          go_roundw
          case rel => exact ⟨i + 1, l ++ [] ++ (40 :: (lf ++ [41])), by omega, by rw [EQ.out], by simp, FF, T5, B5⟩
          case measure => simp [intOf]; omega
        · go_wp2_with fail
          refine D1.out.mono ?_
          rintro e w5 ⟨lf, rfl, h1, h2, h3, hb5⟩
          have F := FIN.out lf [] (40 :: (lf ++ [41])) h1 h2 h3 (by rw [if_neg (by omega)]) (by rw [← KO.out]; rfl)
          have T5 := Lib.hid (T2.out.below hb5)
          have B5 := Lib.hid (B2.out.trans (hb5.mono B2.out.size))
          have K5 := Lib.hid (KT.out.below hb5)
          have zl : (strC l).size < 1000 := by have := HLL.out; omega
          have zf : (strC lf).size ≤ 1000000 := by rw [strC_size]; have := HKS.out; omega
          have zs : (strC l).size ≤ 1001 := by omega
          have qk := fun W => run_string_add_sum (P := Try.prog) W ⟨#[40]⟩ (strC lf) (by show 1 + _ ≤ _; omega)
          have zk : (⟨#[40]⟩ ++ strC lf).size ≤ 1000001 := by rw [ByteArray.size_append]; show 1 + _ ≤ _; omega
          have qk2 := fun W => run_string_add_sum (P := Try.prog) W (⟨#[40]⟩ ++ strC lf) ⟨#[41]⟩ (by show _ + 1 ≤ _; omega)
          have zk2 : (⟨#[40]⟩ ++ strC lf ++ ⟨#[41]⟩).size ≤ 1000002 := by rw [ByteArray.size_append]; show _ + 1 ≤ _; omega
          have qa := fun W => run_string_add_sum (P := Try.prog) W (strC l) (⟨#[40]⟩ ++ strC lf ++ ⟨#[41]⟩) (by omega)
          clear zk zk2
          have EQ : Hid ((strC l) ++ (⟨#[40]⟩ ++ strC lf ++ ⟨#[41]⟩) = strC (l ++ [] ++ (40 :: (lf ++ [41])))) := by
            show _ = _
            rw [show (⟨#[40]⟩ : ByteArray) = strC [40] by kernel_rfl, show (⟨#[41]⟩ : ByteArray) = strC [41] by kernel_rfl]
            simp only [strC_app]
            congr 1
            all_goals simp
          have FF := Lib.hid F
          clear x0 x1 x2 x3 x4 x5 x6 x7 a0 a1 a2 a3 a4 a5 a6 a7 tl kbl
          obtain ⟨⟨y0, y1, y2, y3, y4, y5, y6, y7⟩, -⟩ := K5.out.all
          obtain ⟨⟨x0, x1, x2, x3, x4, x5, x6, x7⟩, -⟩ := T5.out.all
          have tl5 := T5.out.lt
          have kl5 := K5.out.lt
          generalize strC l = s0 at *
          generalize strC lf = sf at *
          clear D1 h1 h2 h3 hb5 F zl zf zs T2 B2 KT FIN HLL
          go_wp2_with fail
          go_roundw
          case rel => exact ⟨i + 1, l ++ [] ++ (40 :: (lf ++ [41])), by omega, by rw [EQ.out], by simp, FF, T5, B5⟩
          case measure => simp [intOf]; omega
        · go_wp2_with fail
          refine D1.out.mono ?_
          rintro e w5 ⟨lf, rfl, h1, h2, h3, hb5⟩
          have F := FIN.out lf [] (40 :: (lf ++ [41])) h1 h2 h3 (by rw [if_neg (by omega)]) (by rw [← KO.out]; rfl)
          have T5 := Lib.hid (T2.out.below hb5)
          have B5 := Lib.hid (B2.out.trans (hb5.mono B2.out.size))
          have K5 := Lib.hid (KT.out.below hb5)
          have zl : (strC l).size < 1000 := by have := HLL.out; omega
          have zf : (strC lf).size ≤ 1000000 := by rw [strC_size]; have := HKS.out; omega
          have zs : (strC l).size ≤ 1001 := by omega
          have qk := fun W => run_string_add_sum (P := Try.prog) W ⟨#[40]⟩ (strC lf) (by show 1 + _ ≤ _; omega)
          have zk : (⟨#[40]⟩ ++ strC lf).size ≤ 1000001 := by rw [ByteArray.size_append]; show 1 + _ ≤ _; omega
          have qk2 := fun W => run_string_add_sum (P := Try.prog) W (⟨#[40]⟩ ++ strC lf) ⟨#[41]⟩ (by show _ + 1 ≤ _; omega)
          have zk2 : (⟨#[40]⟩ ++ strC lf ++ ⟨#[41]⟩).size ≤ 1000002 := by rw [ByteArray.size_append]; show _ + 1 ≤ _; omega
          have qa := fun W => run_string_add_sum (P := Try.prog) W (strC l) (⟨#[40]⟩ ++ strC lf ++ ⟨#[41]⟩) (by omega)
          clear zk zk2
          have EQ : Hid ((strC l) ++ (⟨#[40]⟩ ++ strC lf ++ ⟨#[41]⟩) = strC (l ++ [] ++ (40 :: (lf ++ [41])))) := by
            show _ = _
            rw [show (⟨#[40]⟩ : ByteArray) = strC [40] by kernel_rfl, show (⟨#[41]⟩ : ByteArray) = strC [41] by kernel_rfl]
            simp only [strC_app]
            congr 1
            all_goals simp
          have FF := Lib.hid F
          clear x0 x1 x2 x3 x4 x5 x6 x7 a0 a1 a2 a3 a4 a5 a6 a7 tl kbl
          obtain ⟨⟨y0, y1, y2, y3, y4, y5, y6, y7⟩, -⟩ := K5.out.all
          obtain ⟨⟨x0, x1, x2, x3, x4, x5, x6, x7⟩, -⟩ := T5.out.all
          have tl5 := T5.out.lt
          have kl5 := K5.out.lt
          generalize strC l = s0 at *
          generalize strC lf = sf at *
          clear D1 h1 h2 h3 hb5 F zl zf zs T2 B2 KT FIN HLL
          go_wp2_with fail
          go_roundw
          case rel => exact ⟨i + 1, l ++ [] ++ (40 :: (lf ++ [41])), by omega, by rw [EQ.out], by simp, FF, T5, B5⟩
          case measure => simp [intOf]; omega
      · exfalso
        have h1 := RI.out.rep rfl
        have h2 := HN.out
        have h3 : i = 0 := by omega
        subst h3
        have h4 := hE.out.2.1
        rw [List.take_zero, szL] at h4
        omega
    · have qi : ¬ (i : Int) < (n : Int) := by omega
      obtain rfl : i = n := by omega
      have e1 : ks.take i = ks := List.take_of_length_le (by have := HN.out; omega)
      rw [e1] at hE
      have hb := RI.out.bnd rfl
      have QL := Lib.hid (quant_le lo hi)
      have X : Hid (∀ W', Below w.heap.size w W' → FormR w (.mk 8 f lo hi ks) (.returned (.string (strC (l ++ quantOf lo hi)))) W') := fun W' hW => OUT.out _ W' (hE.out.1.app (Eith.refl _)) (by have h1 := hE.out.2.1; have h2 := QL.out; rw [List.length_append]; omega) (fun x hx => by
        rcases List.mem_append.1 hx with h | h
        · exact hE.out.2.2 x h
        · exact quant_lt lo hi hb x h) hW
      have zl : (strC l).size ≤ 1000000 := by have h1 := hE.out.2.1; have h2 := HZ.out; omega
      obtain ⟨b1, b2, b3⟩ := hb
      obtain ⟨m, rfl⟩ := Int.eq_ofNat_of_zero_le b1
      have NM := Lib.hid fun W => numR_any m (by omega) W
      have sm3 : (strC (numF m)).size ≤ 3 := by rw [strC_size]; exact num_le m
      have qo := fun W => run_string_add_sum (P := Try.prog) W (strC l) ⟨#[123]⟩ (by show _ + 1 ≤ _; omega)
      have zo : (strC l ++ ⟨#[123]⟩).size ≤ 1000001 := by rw [ByteArray.size_append]; show _ + 1 ≤ _; omega
      have qn := fun W => run_string_add_sum (P := Try.prog) W (strC l ++ ⟨#[123]⟩) (strC (numF m)) (by omega)
      have zn : (strC l ++ ⟨#[123]⟩ ++ strC (numF m)).size ≤ 1000004 := by rw [ByteArray.size_append]; omega
      have c123 : (⟨#[123]⟩ : ByteArray) = strC [123] := by kernel_rfl
      have C123 := Lib.hid c123
      clear c123 e1 hE hsz OUT RI QL
      by_cases h1 : hi = -1
      · subst h1
        by_cases m0 : m = 0
        · subst m0
          have EQ : Hid (strC l ++ ⟨#[42]⟩ = strC (l ++ quantOf ((0 : Nat) : Int) (-1))) := by
            show _ = _
            rw [show (⟨#[42]⟩ : ByteArray) = strC [42] by kernel_rfl, strC_app]; rfl
          have qx := fun W => run_string_add_sum (P := Try.prog) W (strC l) ⟨#[42]⟩ (by show _ + 1 ≤ _; omega)
          rw [← EQ.out] at X
          clear zl zo zn qo qn NM sm3 EQ
          generalize strC l = s0 at *
          go_wp2
          go_ret
          exact X.out _ (hB.out.alloc hB.out.size _)
        by_cases m1 : m = 1
        · subst m1
          have EQ : Hid (strC l ++ ⟨#[43]⟩ = strC (l ++ quantOf ((1 : Nat) : Int) (-1))) := by
            show _ = _
            rw [show (⟨#[43]⟩ : ByteArray) = strC [43] by kernel_rfl, strC_app]; rfl
          have qx := fun W => run_string_add_sum (P := Try.prog) W (strC l) ⟨#[43]⟩ (by show _ + 1 ≤ _; omega)
          rw [← EQ.out] at X
          clear zl zo zn qo qn NM sm3 EQ
          generalize strC l = s0 at *
          go_wp2
          go_ret
          exact X.out _ (hB.out.alloc hB.out.size _)
        have EQ : Hid (strC l ++ ⟨#[123]⟩ ++ strC (numF m) ++ ⟨#[44, 125]⟩ = strC (l ++ quantOf (m : Int) (-1))) := by
          show _ = _
          have e : quantOf (m : Int) (-1) = 123 :: numF m ++ [44, 125] := by
            unfold quantOf; rw [if_neg (by omega), if_neg (by omega), if_pos rfl, Int.toNat_natCast]
          rw [C123.out, show (⟨#[44, 125]⟩ : ByteArray) = strC [44, 125] by kernel_rfl, e]
          simp only [strC_app]
          congr 1
          simp
        have qx := fun W => run_string_add_sum (P := Try.prog) W (strC l ++ ⟨#[123]⟩ ++ strC (numF m)) ⟨#[44, 125]⟩ (by show _ + 2 ≤ _; omega)
        have t0 : ((m : Int) == 0) = false := by rw [beq_eq_false_iff_ne]; omega
        have t1 : ((m : Int) == -1) = false := by rw [beq_eq_false_iff_ne]; omega
        have t2 : ¬ (m : Int) < 2 := by omega
        rw [← EQ.out] at X
        clear zl zo zn EQ sm3
        generalize strC l = s0 at *
        generalize strC (numF m) = sm at *
        go_wp2_with fail
        refine (NM.out _).mono ?_
        rintro e w5 ⟨rfl, hb5⟩
        have B5 := Lib.hid (hB.out.trans (hb5.mono hB.out.size))
        clear NM hb5 hB x0 x1 x2 x3 x4 x5 x6 x7
        go_wp2
        go_ret
        exact X.out _ B5.out
      obtain ⟨k, rfl⟩ := Int.eq_ofNat_of_zero_le (show 0 ≤ hi by omega)
      have tk : ((k : Int) == -1) = false := by rw [beq_eq_false_iff_ne]; omega
      have NK := Lib.hid fun W => numR_any k (by omega) W
      have sk3 : (strC (numF k)).size ≤ 3 := by rw [strC_size]; exact num_le k
      by_cases cq : m = 0 ∧ k = 1
      · obtain ⟨rfl, rfl⟩ := cq
        have EQ : Hid (strC l ++ ⟨#[63]⟩ = strC (l ++ quantOf ((0 : Nat) : Int) ((1 : Nat) : Int))) := by
          show _ = _
          rw [show (⟨#[63]⟩ : ByteArray) = strC [63] by kernel_rfl, strC_app]; rfl
        have qx := fun W => run_string_add_sum (P := Try.prog) W (strC l) ⟨#[63]⟩ (by show _ + 1 ≤ _; omega)
        rw [← EQ.out] at X
        clear zl zo zn qo qn NM NK sm3 sk3 EQ tk h1
        generalize strC l = s0 at *
        go_wp2
        go_ret
        exact X.out _ hB.out
      by_cases ce : k = m
      · subst ce
        have EQ : Hid (strC l ++ ⟨#[123]⟩ ++ strC (numF k) ++ ⟨#[125]⟩ = strC (l ++ quantOf (k : Int) (k : Int))) := by
          show _ = _
          have e : quantOf (k : Int) (k : Int) = 123 :: numF k ++ [125] := by
            unfold quantOf; rw [if_neg (by omega), if_neg (by omega), if_neg (by omega), if_pos rfl, Int.toNat_natCast]
          rw [C123.out, show (⟨#[125]⟩ : ByteArray) = strC [125] by kernel_rfl, e]
          simp only [strC_app]
          congr 1
          simp
        have qx := fun W => run_string_add_sum (P := Try.prog) W (strC l ++ ⟨#[123]⟩ ++ strC (numF k)) ⟨#[125]⟩ (by show _ + 1 ≤ _; omega)
        rw [← EQ.out] at X
        clear zl zo zn EQ sm3 sk3 NK h1
        generalize strC l = s0 at *
        generalize strC (numF k) = sm at *
        by_cases k0 : k = 0
        · subst k0
          go_wp2_with fail
          refine (NM.out _).mono ?_
          rintro e w5 ⟨rfl, hb5⟩
          have B5 := Lib.hid (hB.out.trans (hb5.mono hB.out.size))
          clear NM hb5 hB x0 x1 x2 x3 x4 x5 x6 x7
          go_wp2
          go_ret
          exact X.out _ B5.out
        have t0 : ((k : Int) == 0) = false := by rw [beq_eq_false_iff_ne]; omega
        go_wp2_with fail
        refine (NM.out _).mono ?_
        rintro e w5 ⟨rfl, hb5⟩
        have B5 := Lib.hid (hB.out.trans (hb5.mono hB.out.size))
        clear NM hb5 hB x0 x1 x2 x3 x4 x5 x6 x7
        go_wp2
        go_ret
        exact X.out _ B5.out
      have EQ : Hid (strC l ++ ⟨#[123]⟩ ++ strC (numF m) ++ ⟨#[44]⟩ ++ strC (numF k) ++ ⟨#[125]⟩ = strC (l ++ quantOf (m : Int) (k : Int))) := by
        show _ = _
        have e : quantOf (m : Int) (k : Int) = 123 :: numF m ++ 44 :: numF k ++ [125] := by
          unfold quantOf; rw [if_neg (by omega), if_neg (by omega), if_neg (by omega), if_neg (by omega), Int.toNat_natCast, Int.toNat_natCast]
        rw [C123.out, show (⟨#[44]⟩ : ByteArray) = strC [44] by kernel_rfl, show (⟨#[125]⟩ : ByteArray) = strC [125] by kernel_rfl, e]
        simp only [strC_app]
        congr 1
        simp
      have qx := fun W => run_string_add_sum (P := Try.prog) W (strC l ++ ⟨#[123]⟩ ++ strC (numF m)) ⟨#[44]⟩ (by show _ + 1 ≤ _; omega)
      have zx : (strC l ++ ⟨#[123]⟩ ++ strC (numF m) ++ ⟨#[44]⟩).size ≤ 1000005 := by rw [ByteArray.size_append]; show _ + 1 ≤ _; omega
      have qy := fun W => run_string_add_sum (P := Try.prog) W (strC l ++ ⟨#[123]⟩ ++ strC (numF m) ++ ⟨#[44]⟩) (strC (numF k)) (by omega)
      have zy : (strC l ++ ⟨#[123]⟩ ++ strC (numF m) ++ ⟨#[44]⟩ ++ strC (numF k)).size ≤ 1000008 := by rw [ByteArray.size_append]; omega
      have qz := fun W => run_string_add_sum (P := Try.prog) W (strC l ++ ⟨#[123]⟩ ++ strC (numF m) ++ ⟨#[44]⟩ ++ strC (numF k)) ⟨#[125]⟩ (by show _ + 1 ≤ _; omega)
      have te : ((k : Int) == (m : Int)) = false := by rw [beq_eq_false_iff_ne]; omega
      rw [← EQ.out] at X
      clear zl zo zn zx zy EQ sm3 sk3 h1
      have T0 : Hid (TB wr.drew w.heap.size ⟨8, q, m, k, A, i, c⟩) := TB.drewN hT.out 1
      have B0 : Hid (Below w.heap.size w wr.drew) := hB.out.drew
      generalize strC l = s0 at *
      by_cases k0 : m = 0
      · subst k0
        have tk1 : ((k : Int) == 1) = false := by rw [beq_eq_false_iff_ne]; omega
        have NM : Hid (∀ W, Calls Try.prog 83 #[.int .i64 0] W (Tells W (.string (strC (numF 0))))) := NM
        generalize strC (numF 0) = sm at *
        generalize strC (numF k) = sk at *
        go_wp2_with fail
        go_region_held3 (fun w' => w'.cell? ⟨w.heap.size, 5, none⟩ = some (.int .i64 0) ∧ w'.cell? ⟨w.heap.size, 6, none⟩ = some (.int .i64 (k : Int)))
          (first | exact ⟨by assumption, by assumption⟩ | go_keep)
          (first
            | (go_at_call 83; (first | with_reducible refine (NM.out _).mono ?_ | with_reducible refine (NK.out _).mono ?_); rintro e wn ⟨rfl, hb⟩; have T1 := step_tb (by assumption) hb; have B1 := step_bel (by assumption) hb; clear hb; obtain ⟨⟨_, _, _, _, _, _, _, _⟩, -⟩ := T1.out.all)
            | fail)
        all_goals
          go_wp2
          go_ret
          exact X.out _ B1.out
      have t0 : ((m : Int) == 0) = false := by rw [beq_eq_false_iff_ne]; omega
      generalize strC (numF m) = sm at *
      generalize strC (numF k) = sk at *
      go_wp2_with fail
      go_region_held3 (fun w' => w'.cell? ⟨w.heap.size, 5, none⟩ = some (.int .i64 (m : Int)) ∧ w'.cell? ⟨w.heap.size, 6, none⟩ = some (.int .i64 (k : Int)))
        (first | exact ⟨by assumption, by assumption⟩ | go_keep)
        (first
          | (go_at_call 83; (first | with_reducible refine (NM.out _).mono ?_ | with_reducible refine (NK.out _).mono ?_); rintro e wn ⟨rfl, hb⟩; have T1 := step_tb (by assumption) hb; have B1 := step_bel (by assumption) hb; clear hb; obtain ⟨⟨_, _, _, _, _, _, _, _⟩, -⟩ := T1.out.all)
          | fail)
      all_goals
        go_wp2
        go_ret
        exact X.out _ B1.out
end Go.Proofs.Ytkljagffccommaa
