/- The document's form of a term. The document's form of any right term; the document's Show. -/
import Derived.Test.YtkljagffccommaaG45
import Derived.Test.YtkljagffccommaaB318
import Derived.Test.YtkljagffccommaaG28
namespace Go.Proofs.Ytkljagffccommaa
open Go.RowKit
set_option maxRecDepth 100000 in
set_option maxHeartbeats 8000000 in
theorem formR_7 (f : Nat → Bool) (lo hi : Int) (ks : List Tm) (d : TD) (w : World) (hr0 : rightT (.mk 7 f lo hi ks) = true) (hz : szT (.mk 7 f lo hi ks) ≤ 500) (ht : TR w (.mk 7 f lo hi ks) d) (ih : ∀ k ∈ ks, rightT k = true → szT k ≤ 500 → ∀ (d : TD) (w : World), TR w k d → Calls Try.prog 59 #[d.val] w (FormR w k)) : Calls Try.prog 59 #[d.val] w (FormR w (.mk 7 f lo hi ks)) := by
  cases ht with
  | mk _ _ _ _ _ q A c ds hq hl hn hk hr =>
  have RI := Lib.hid (right_is hr0)
  have HZ : Hid (1 + szL ks ≤ 500) := by rw [szT] at hz; exact hz
  have b1 := below_new w (.cells #[.int .i64 7, .int .u64 (uv (q 0)), .int .u64 (uv (q 1)), .int .u64 (uv (q 2)), .int .u64 (uv (q 3)), .int .i64 lo, .int .i64 hi, .slice A ks.length c] 29)
  have b2 := below_new (w.alloc (.cells #[.int .i64 7, .int .u64 (uv (q 0)), .int .u64 (uv (q 1)), .int .u64 (uv (q 2)), .int .u64 (uv (q 3)), .int .i64 lo, .int .i64 hi, .slice A ks.length c] 29)) (.cells #[.string ⟨#[]⟩, .string ⟨#[]⟩, .string ⟨#[]⟩, .string ⟨#[46]⟩, .string ⟨#[94]⟩, .string ⟨#[36]⟩] 97)
  have B1 := Lib.hid (b1.trans (b2.mono b1.size))
  have T1 := Lib.hid (TB.below (TB.new w ⟨7, q, lo, hi, A, ks.length, c⟩) b2)
  unfold TD.cells at T1
  have OUT : Hid (∀ l W', Eith l (formL 7 ks true) → l.length ≤ 2000 * szL ks + 18 → (∀ x ∈ l, x < 256) → Below w.heap.size w W' → FormR w (.mk 7 f lo hi ks) (.returned (.string (strC l))) W') := fun l W' he hl hb hW => by
    have e : formT (.mk 7 f lo hi ks) = formL 7 ks true := by rw [formT]; simp
    exact ⟨l, rfl, by rw [e]; exact he, by rw [szT]; omega, hb, hW⟩
  obtain ⟨n, hnn⟩ : ∃ n, ks.length = n := ⟨_, rfl⟩
  rw [hnn] at hn T1 B1 ⊢
  have IH := Lib.hid ih; have HK := Lib.hid hk; have HR := Lib.hid hr; have HL := Lib.hid hl; have HN := Lib.hid hnn
  obtain ⟨⟨x0, x1, x2, x3, x4, x5, x6, x7⟩, -⟩ := T1.out.all
  clear ih hk hr hl hnn hq b1 b2 hz hr0
  unfold TD.val
  have S0 : Hid (strC [] = ⟨#[]⟩) := by show strC [] = _; kernel_rfl
  go_enter Try.func59, Try.ntmps59
  go_wp2_with fail
  rw [← S0.out]
  go_loopw [4, 5] (fun u v wr => ∃ (i : Nat) (l : List Nat), i ≤ n ∧ u = .string (strC l) ∧ v = .int .i64 (i : Nat) ∧ Hid (Eith l (formL 7 (ks.take i) true) ∧ l.length ≤ 2000 * szL (ks.take i) ∧ ∀ x ∈ l, x < 256) ∧ Hid (TB wr w.heap.size ⟨7, q, lo, hi, A, n, c⟩) ∧ Hid (Below w.heap.size w wr)) (fun _ v _ => n - (intOf v).toNat)
  case atStart => exact ⟨0, [], Nat.zero_le _, rfl, rfl, ⟨by rw [List.take_zero, formL]; exact .refl _, by simp, fun x hx => by simp at hx⟩, T1, B1⟩
  case round =>
    obtain ⟨i, l, hi1, rfl, rfl, hE, hT, hB⟩ := hrel
    clear x0 x1 x2 x3 x4 x5 x6 x7 T1 B1 S0
    obtain ⟨⟨x0, x1, x2, x3, x4, x5, x6, x7⟩, -⟩ := hT.out.all
    have tl := hT.out.lt
    have hsz := strC_size l
    by_cases hlt : i < n
    · have qi : (i : Int) < (n : Int) := by omega
      have hi2 : i < ks.length := by have := HN.out; omega
      have hi4 : i < ds.length := by have h1 := HL.out; omega
      by_cases hlen : l.length < 1000
      · have ql : ((strC l).size : Int) < 1000 := by omega
        obtain ⟨kb1, off1, rfl, hb1, hc1⟩ := HR.out (by omega)
        obtain ⟨a0, a1, a2, a3, a4, a5, a6, a7⟩ := kid_cells hB.out hb1 hc1 (List.getElem?_eq_getElem hi4)
        have k1 := (HK.out i _ _ (List.getElem?_eq_getElem hi2) (List.getElem?_eq_getElem hi4)).keeps hB.out
        have hm := List.getElem_mem hi2
        have kbl : kb1 < wr.heap.size := Nat.lt_of_lt_of_le hb1 hB.out.size
        have hks := szL_mem ks _ hm
        have kr := RI.out.kids _ hm
        have SN : Hid (formL 7 (ks.take (i + 1)) true = formL 7 (ks.take i) true ++ ((if (7 : Int) = 7 ∧ (true = false ∨ 0 < (ks.take i).length) then [124] else []) ++ kidF 7 ks[i])) := by
          show formL 7 (ks.take (i + 1)) true = _
          rw [List.take_succ_eq_append_getElem hi2, formL_snoc]
        have SZ : Hid (szL (ks.take (i + 1)) = szL (ks.take i) + szT ks[i]) := by
          show szL (ks.take (i + 1)) = _
          rw [List.take_succ_eq_append_getElem hi2, szL_snoc]
        have TL : Hid ((ks.take i).length = i) := by
          show (ks.take i).length = i
          rw [List.length_take]; omega
        have hop : ds[i].op = opOf ks[i] := (HK.out i _ _ (List.getElem?_eq_getElem hi2) (List.getElem?_eq_getElem hi4)).op
        have o1 : 1 ≤ opOf ks[i] ∧ opOf ks[i] ≤ 8 := by
          revert kr
          generalize ks[i] = kt
          obtain ⟨o, f1, l1, h1, kk⟩ := kt
          intro kr
          have R := right_is kr
          exact ⟨R.op1, R.op8⟩
        generalize ks[i] = kt at *
        generalize ds[i] = dt at *
        have nb := below_new wr (.cells dt.cells 29)
        have D1 := IH.out kt hm kr (by have := HZ.out; omega) dt _ (k1.keeps nb)
        have KT := Lib.hid (TB.new wr dt)
        have T2 := Lib.hid (TB.below hT.out nb)
        have B2 := Lib.hid (hB.out.trans (nb.mono hB.out.size))
        have q6 : IntKind.i64.wrap ((i : Int) + 1) = ((i + 1 : Nat) : Int) := by rw [IntWalk.i64_in _ (by omega)]; omega
        have HLL := Lib.hid (And.intro hlen hsz)
        have HKS : Hid (szT kt ≤ 500) := by have h1 := HZ.out; show szT kt ≤ 500; omega
        obtain ⟨op', qd, lod, hid', Ad, nd, cd⟩ := dt
        change op' = opOf kt at hop
        unfold TD.cells TD.val at D1
        unfold TD.cells at KT T2 B2
        simp only at D1 KT T2 B2 a0 a1 a2 a3 a4 a5 a6 a7
        have KO := Lib.hid hop
        have ko : op' = 1 ∨ op' = 2 ∨ op' = 3 ∨ op' = 4 ∨ op' = 5 ∨ op' = 6 ∨ op' = 7 ∨ op' = 8 := by omega
        have D1 := Lib.hid D1
        clear hc1 k1 hi2 hi4 hb1 hm nb hT hB hks kr hop o1 hlen hsz
        have FIN : Hid (∀ (lf sep kf : List Nat), Eith lf (formT kt) → lf.length + 100 ≤ 2000 * szT kt → (∀ x ∈ lf, x < 256) → (sep = if (7 : Int) = 7 ∧ 0 < i then [124] else []) → (kf = if needs 7 (opOf kt) = true then 40 :: (lf ++ [41]) else lf) → Eith (l ++ sep ++ kf) (formL 7 (ks.take (i + 1)) true) ∧ (l ++ sep ++ kf).length ≤ 2000 * szL (ks.take (i + 1)) ∧ ∀ x ∈ l ++ sep ++ kf, x < 256) := fun lf sep kf h1 h2 h3 hs hkf => by
          obtain ⟨e1, e2, e3⟩ := hE.out
          have hsep : (if (7 : Int) = 7 ∧ (true = false ∨ 0 < (ks.take i).length) then [124] else []) = sep := by
            rw [hs, TL.out]; simp
          have hk2 : Eith kf (kidF 7 kt) := by
            rw [hkf]; unfold kidF
            split
            · exact (Eith.refl [40]).app (h1.app (Eith.refl [41]))
            · exact h1
          have hkl : kf.length ≤ lf.length + 2 := by
            rw [hkf]; split
            · simp
            · omega
          have hsl : sep.length ≤ 1 := by rw [hs]; split <;> simp
          refine ⟨?_, ?_, ?_⟩
          · rw [SN.out, hsep, ← List.append_assoc]
            exact (e1.app (Eith.refl sep)).app hk2
          · rw [SZ.out, List.length_append, List.length_append]; omega
          · intro x hx
            rw [List.mem_append, List.mem_append] at hx
            rcases hx with (hx | hx) | hx
            · exact e3 x hx
            · rw [hs] at hx; split at hx
              · simp at hx; omega
              · simp at hx
            · rw [hkf] at hx; split at hx
              · simp only [List.mem_cons, List.mem_append, List.not_mem_nil, or_false] at hx
                rcases hx with rfl | hx | rfl
                · omega
                · exact h3 x hx
                · omega
              · exact h3 x hx
        clear SN SZ TL hE
        rcases ko with rfl | rfl | rfl | rfl | rfl | rfl | rfl | rfl
        · by_cases hi0 : 0 < i
          · have qi0 : (0 : Int) < (i : Int) := by omega
            go_wp2_with fail
            refine D1.out.mono ?_
            rintro e w5 ⟨lf, rfl, h1, h2, h3, hb5⟩
            have F := FIN.out lf [124] lf h1 h2 h3 (by simp [hi0]) (by rw [← KO.out]; rfl)
            have T5 := Lib.hid (T2.out.below hb5)
            have B5 := Lib.hid (B2.out.trans (hb5.mono B2.out.size))
            have K5 := Lib.hid (KT.out.below hb5)
            have zl : (strC l).size < 1000 := by have := HLL.out; omega
            have zf : (strC lf).size ≤ 1000000 := by rw [strC_size]; have := HKS.out; omega
            have qs := fun W => run_string_add_sum (P := Try.prog) W (strC l) ⟨#[124]⟩ (by show _ + 1 ≤ _; omega)
            have zs : (strC l ++ ⟨#[124]⟩).size ≤ 1001 := by rw [ByteArray.size_append]; show _ + 1 ≤ _; omega
            have qa := fun W => run_string_add_sum (P := Try.prog) W (strC l ++ ⟨#[124]⟩) (strC lf) (by omega)
            have EQ : Hid ((strC l ++ ⟨#[124]⟩) ++ strC lf = strC (l ++ [124] ++ lf)) := by
              show _ = _
              rw [show (⟨#[124]⟩ : ByteArray) = strC [124] by kernel_rfl]
              simp only [strC_app]
            have FF := Lib.hid F
            clear x0 x1 x2 x3 x4 x5 x6 x7 a0 a1 a2 a3 a4 a5 a6 a7 tl kbl
            obtain ⟨⟨y0, y1, y2, y3, y4, y5, y6, y7⟩, -⟩ := K5.out.all
            obtain ⟨⟨x0, x1, x2, x3, x4, x5, x6, x7⟩, -⟩ := T5.out.all
            have tl5 := T5.out.lt
            have kl5 := K5.out.lt
            generalize strC l = s0 at *
            generalize strC lf = sf at *
            clear D1 h1 h2 h3 hb5 F zl zf zs T2 B2 KT FIN HLL
            go_wp2_with fail
            go_roundw
            case rel => exact ⟨i + 1, l ++ [124] ++ lf, by omega, by rw [EQ.out], by simp, FF, T5, B5⟩
            case measure => simp [intOf]; omega
          · have qi0 : ¬ (0 : Int) < (i : Int) := by omega
            go_wp2_with fail
            refine D1.out.mono ?_
            rintro e w5 ⟨lf, rfl, h1, h2, h3, hb5⟩
            have F := FIN.out lf [] lf h1 h2 h3 (by rw [if_neg (by omega)]) (by rw [← KO.out]; rfl)
            have T5 := Lib.hid (T2.out.below hb5)
            have B5 := Lib.hid (B2.out.trans (hb5.mono B2.out.size))
            have K5 := Lib.hid (KT.out.below hb5)
            have zl : (strC l).size < 1000 := by have := HLL.out; omega
            have zf : (strC lf).size ≤ 1000000 := by rw [strC_size]; have := HKS.out; omega
            have zs : (strC l).size ≤ 1001 := by omega
            have qa := fun W => run_string_add_sum (P := Try.prog) W (strC l) (strC lf) (by omega)
            have EQ : Hid ((strC l) ++ strC lf = strC (l ++ [] ++ lf)) := by
              show _ = _
              simp only [strC_app]
              congr 1
              all_goals simp
            have FF := Lib.hid F
            clear x0 x1 x2 x3 x4 x5 x6 x7 a0 a1 a2 a3 a4 a5 a6 a7 tl kbl
            obtain ⟨⟨y0, y1, y2, y3, y4, y5, y6, y7⟩, -⟩ := K5.out.all
            obtain ⟨⟨x0, x1, x2, x3, x4, x5, x6, x7⟩, -⟩ := T5.out.all
            have tl5 := T5.out.lt
            have kl5 := K5.out.lt
            generalize strC l = s0 at *
            generalize strC lf = sf at *
            clear D1 h1 h2 h3 hb5 F zl zf zs T2 B2 KT FIN HLL
            go_wp2_with fail
            go_roundw
            case rel => exact ⟨i + 1, l ++ [] ++ lf, by omega, by rw [EQ.out], by simp, FF, T5, B5⟩
            case measure => simp [intOf]; omega
        · by_cases hi0 : 0 < i
          · have qi0 : (0 : Int) < (i : Int) := by omega
            go_wp2_with fail
            refine D1.out.mono ?_
            rintro e w5 ⟨lf, rfl, h1, h2, h3, hb5⟩
            have F := FIN.out lf [124] lf h1 h2 h3 (by simp [hi0]) (by rw [← KO.out]; rfl)
            have T5 := Lib.hid (T2.out.below hb5)
            have B5 := Lib.hid (B2.out.trans (hb5.mono B2.out.size))
            have K5 := Lib.hid (KT.out.below hb5)
            have zl : (strC l).size < 1000 := by have := HLL.out; omega
            have zf : (strC lf).size ≤ 1000000 := by rw [strC_size]; have := HKS.out; omega
            have qs := fun W => run_string_add_sum (P := Try.prog) W (strC l) ⟨#[124]⟩ (by show _ + 1 ≤ _; omega)
            have zs : (strC l ++ ⟨#[124]⟩).size ≤ 1001 := by rw [ByteArray.size_append]; show _ + 1 ≤ _; omega
            have qa := fun W => run_string_add_sum (P := Try.prog) W (strC l ++ ⟨#[124]⟩) (strC lf) (by omega)
            have EQ : Hid ((strC l ++ ⟨#[124]⟩) ++ strC lf = strC (l ++ [124] ++ lf)) := by
              show _ = _
              rw [show (⟨#[124]⟩ : ByteArray) = strC [124] by kernel_rfl]
              simp only [strC_app]
            have FF := Lib.hid F
            clear x0 x1 x2 x3 x4 x5 x6 x7 a0 a1 a2 a3 a4 a5 a6 a7 tl kbl
            obtain ⟨⟨y0, y1, y2, y3, y4, y5, y6, y7⟩, -⟩ := K5.out.all
            obtain ⟨⟨x0, x1, x2, x3, x4, x5, x6, x7⟩, -⟩ := T5.out.all
            have tl5 := T5.out.lt
            have kl5 := K5.out.lt
            generalize strC l = s0 at *
            generalize strC lf = sf at *
            clear D1 h1 h2 h3 hb5 F zl zf zs T2 B2 KT FIN HLL
            go_wp2_with fail
            go_roundw
            case rel => exact ⟨i + 1, l ++ [124] ++ lf, by omega, by rw [EQ.out], by simp, FF, T5, B5⟩
            case measure => simp [intOf]; omega
          · have qi0 : ¬ (0 : Int) < (i : Int) := by omega
            go_wp2_with fail
            refine D1.out.mono ?_
            rintro e w5 ⟨lf, rfl, h1, h2, h3, hb5⟩
            have F := FIN.out lf [] lf h1 h2 h3 (by rw [if_neg (by omega)]) (by rw [← KO.out]; rfl)
            have T5 := Lib.hid (T2.out.below hb5)
            have B5 := Lib.hid (B2.out.trans (hb5.mono B2.out.size))
            have K5 := Lib.hid (KT.out.below hb5)
            have zl : (strC l).size < 1000 := by have := HLL.out; omega
            have zf : (strC lf).size ≤ 1000000 := by rw [strC_size]; have := HKS.out; omega
            have zs : (strC l).size ≤ 1001 := by omega
            have qa := fun W => run_string_add_sum (P := Try.prog) W (strC l) (strC lf) (by omega)
            have EQ : Hid ((strC l) ++ strC lf = strC (l ++ [] ++ lf)) := by
              show _ = _
              simp only [strC_app]
              congr 1
              all_goals simp
            have FF := Lib.hid F
            clear x0 x1 x2 x3 x4 x5 x6 x7 a0 a1 a2 a3 a4 a5 a6 a7 tl kbl
            obtain ⟨⟨y0, y1, y2, y3, y4, y5, y6, y7⟩, -⟩ := K5.out.all
            obtain ⟨⟨x0, x1, x2, x3, x4, x5, x6, x7⟩, -⟩ := T5.out.all
            have tl5 := T5.out.lt
            have kl5 := K5.out.lt
            generalize strC l = s0 at *
            generalize strC lf = sf at *
            clear D1 h1 h2 h3 hb5 F zl zf zs T2 B2 KT FIN HLL
            go_wp2_with fail
            go_roundw
            case rel => exact ⟨i + 1, l ++ [] ++ lf, by omega, by rw [EQ.out], by simp, FF, T5, B5⟩
            case measure => simp [intOf]; omega
        · by_cases hi0 : 0 < i
          · have qi0 : (0 : Int) < (i : Int) := by omega
            go_wp2_with fail
            refine D1.out.mono ?_
            rintro e w5 ⟨lf, rfl, h1, h2, h3, hb5⟩
            have F := FIN.out lf [124] lf h1 h2 h3 (by simp [hi0]) (by rw [← KO.out]; rfl)
            have T5 := Lib.hid (T2.out.below hb5)
            have B5 := Lib.hid (B2.out.trans (hb5.mono B2.out.size))
            have K5 := Lib.hid (KT.out.below hb5)
            have zl : (strC l).size < 1000 := by have := HLL.out; omega
            have zf : (strC lf).size ≤ 1000000 := by rw [strC_size]; have := HKS.out; omega
            have qs := fun W => run_string_add_sum (P := Try.prog) W (strC l) ⟨#[124]⟩ (by show _ + 1 ≤ _; omega)
            have zs : (strC l ++ ⟨#[124]⟩).size ≤ 1001 := by rw [ByteArray.size_append]; show _ + 1 ≤ _; omega
            have qa := fun W => run_string_add_sum (P := Try.prog) W (strC l ++ ⟨#[124]⟩) (strC lf) (by omega)
            have EQ : Hid ((strC l ++ ⟨#[124]⟩) ++ strC lf = strC (l ++ [124] ++ lf)) := by
              show _ = _
              rw [show (⟨#[124]⟩ : ByteArray) = strC [124] by kernel_rfl]
              simp only [strC_app]
            have FF := Lib.hid F
            clear x0 x1 x2 x3 x4 x5 x6 x7 a0 a1 a2 a3 a4 a5 a6 a7 tl kbl
            obtain ⟨⟨y0, y1, y2, y3, y4, y5, y6, y7⟩, -⟩ := K5.out.all
            obtain ⟨⟨x0, x1, x2, x3, x4, x5, x6, x7⟩, -⟩ := T5.out.all
            have tl5 := T5.out.lt
            have kl5 := K5.out.lt
            generalize strC l = s0 at *
            generalize strC lf = sf at *
            clear D1 h1 h2 h3 hb5 F zl zf zs T2 B2 KT FIN HLL
            go_wp2_with fail
            go_roundw
            case rel => exact ⟨i + 1, l ++ [124] ++ lf, by omega, by rw [EQ.out], by simp, FF, T5, B5⟩
            case measure => simp [intOf]; omega
          · have qi0 : ¬ (0 : Int) < (i : Int) := by omega
            go_wp2_with fail
            refine D1.out.mono ?_
            rintro e w5 ⟨lf, rfl, h1, h2, h3, hb5⟩
            have F := FIN.out lf [] lf h1 h2 h3 (by rw [if_neg (by omega)]) (by rw [← KO.out]; rfl)
            have T5 := Lib.hid (T2.out.below hb5)
            have B5 := Lib.hid (B2.out.trans (hb5.mono B2.out.size))
            have K5 := Lib.hid (KT.out.below hb5)
            have zl : (strC l).size < 1000 := by have := HLL.out; omega
            have zf : (strC lf).size ≤ 1000000 := by rw [strC_size]; have := HKS.out; omega
            have zs : (strC l).size ≤ 1001 := by omega
            have qa := fun W => run_string_add_sum (P := Try.prog) W (strC l) (strC lf) (by omega)
            have EQ : Hid ((strC l) ++ strC lf = strC (l ++ [] ++ lf)) := by
              show _ = _
              simp only [strC_app]
              congr 1
              all_goals simp
            have FF := Lib.hid F
            clear x0 x1 x2 x3 x4 x5 x6 x7 a0 a1 a2 a3 a4 a5 a6 a7 tl kbl
            obtain ⟨⟨y0, y1, y2, y3, y4, y5, y6, y7⟩, -⟩ := K5.out.all
            obtain ⟨⟨x0, x1, x2, x3, x4, x5, x6, x7⟩, -⟩ := T5.out.all
            have tl5 := T5.out.lt
            have kl5 := K5.out.lt
            generalize strC l = s0 at *
            generalize strC lf = sf at *
            clear D1 h1 h2 h3 hb5 F zl zf zs T2 B2 KT FIN HLL
            go_wp2_with fail
            go_roundw
            case rel => exact ⟨i + 1, l ++ [] ++ lf, by omega, by rw [EQ.out], by simp, FF, T5, B5⟩
            case measure => simp [intOf]; omega
        · by_cases hi0 : 0 < i
          · have qi0 : (0 : Int) < (i : Int) := by omega
            go_wp2_with fail
            refine D1.out.mono ?_
            rintro e w5 ⟨lf, rfl, h1, h2, h3, hb5⟩
            have F := FIN.out lf [124] lf h1 h2 h3 (by simp [hi0]) (by rw [← KO.out]; rfl)
            have T5 := Lib.hid (T2.out.below hb5)
            have B5 := Lib.hid (B2.out.trans (hb5.mono B2.out.size))
            have K5 := Lib.hid (KT.out.below hb5)
            have zl : (strC l).size < 1000 := by have := HLL.out; omega
            have zf : (strC lf).size ≤ 1000000 := by rw [strC_size]; have := HKS.out; omega
            have qs := fun W => run_string_add_sum (P := Try.prog) W (strC l) ⟨#[124]⟩ (by show _ + 1 ≤ _; omega)
            have zs : (strC l ++ ⟨#[124]⟩).size ≤ 1001 := by rw [ByteArray.size_append]; show _ + 1 ≤ _; omega
            have qa := fun W => run_string_add_sum (P := Try.prog) W (strC l ++ ⟨#[124]⟩) (strC lf) (by omega)
            have EQ : Hid ((strC l ++ ⟨#[124]⟩) ++ strC lf = strC (l ++ [124] ++ lf)) := by
              show _ = _
              rw [show (⟨#[124]⟩ : ByteArray) = strC [124] by kernel_rfl]
              simp only [strC_app]
            have FF := Lib.hid F
            clear x0 x1 x2 x3 x4 x5 x6 x7 a0 a1 a2 a3 a4 a5 a6 a7 tl kbl
            obtain ⟨⟨y0, y1, y2, y3, y4, y5, y6, y7⟩, -⟩ := K5.out.all
            obtain ⟨⟨x0, x1, x2, x3, x4, x5, x6, x7⟩, -⟩ := T5.out.all
            have tl5 := T5.out.lt
            have kl5 := K5.out.lt
            generalize strC l = s0 at *
            generalize strC lf = sf at *
            clear D1 h1 h2 h3 hb5 F zl zf zs T2 B2 KT FIN HLL
            go_wp2_with fail
            go_roundw
            case rel => exact ⟨i + 1, l ++ [124] ++ lf, by omega, by rw [EQ.out], by simp, FF, T5, B5⟩
            case measure => simp [intOf]; omega
          · have qi0 : ¬ (0 : Int) < (i : Int) := by omega
            go_wp2_with fail
            refine D1.out.mono ?_
            rintro e w5 ⟨lf, rfl, h1, h2, h3, hb5⟩
            have F := FIN.out lf [] lf h1 h2 h3 (by rw [if_neg (by omega)]) (by rw [← KO.out]; rfl)
            have T5 := Lib.hid (T2.out.below hb5)
            have B5 := Lib.hid (B2.out.trans (hb5.mono B2.out.size))
            have K5 := Lib.hid (KT.out.below hb5)
            have zl : (strC l).size < 1000 := by have := HLL.out; omega
            have zf : (strC lf).size ≤ 1000000 := by rw [strC_size]; have := HKS.out; omega
            have zs : (strC l).size ≤ 1001 := by omega
            have qa := fun W => run_string_add_sum (P := Try.prog) W (strC l) (strC lf) (by omega)
            have EQ : Hid ((strC l) ++ strC lf = strC (l ++ [] ++ lf)) := by
              show _ = _
              simp only [strC_app]
              congr 1
              all_goals simp
            have FF := Lib.hid F
            clear x0 x1 x2 x3 x4 x5 x6 x7 a0 a1 a2 a3 a4 a5 a6 a7 tl kbl
            obtain ⟨⟨y0, y1, y2, y3, y4, y5, y6, y7⟩, -⟩ := K5.out.all
            obtain ⟨⟨x0, x1, x2, x3, x4, x5, x6, x7⟩, -⟩ := T5.out.all
            have tl5 := T5.out.lt
            have kl5 := K5.out.lt
            generalize strC l = s0 at *
            generalize strC lf = sf at *
            clear D1 h1 h2 h3 hb5 F zl zf zs T2 B2 KT FIN HLL
            go_wp2_with fail
            go_roundw
            case rel => exact ⟨i + 1, l ++ [] ++ lf, by omega, by rw [EQ.out], by simp, FF, T5, B5⟩
            case measure => simp [intOf]; omega
        · by_cases hi0 : 0 < i
          · have qi0 : (0 : Int) < (i : Int) := by omega
            go_wp2_with fail
            refine D1.out.mono ?_
            rintro e w5 ⟨lf, rfl, h1, h2, h3, hb5⟩
            have F := FIN.out lf [124] lf h1 h2 h3 (by simp [hi0]) (by rw [← KO.out]; rfl)
            have T5 := Lib.hid (T2.out.below hb5)
            have B5 := Lib.hid (B2.out.trans (hb5.mono B2.out.size))
            have K5 := Lib.hid (KT.out.below hb5)
            have zl : (strC l).size < 1000 := by have := HLL.out; omega
            have zf : (strC lf).size ≤ 1000000 := by rw [strC_size]; have := HKS.out; omega
            have qs := fun W => run_string_add_sum (P := Try.prog) W (strC l) ⟨#[124]⟩ (by show _ + 1 ≤ _; omega)
            have zs : (strC l ++ ⟨#[124]⟩).size ≤ 1001 := by rw [ByteArray.size_append]; show _ + 1 ≤ _; omega
            have qa := fun W => run_string_add_sum (P := Try.prog) W (strC l ++ ⟨#[124]⟩) (strC lf) (by omega)
            have EQ : Hid ((strC l ++ ⟨#[124]⟩) ++ strC lf = strC (l ++ [124] ++ lf)) := by
              show _ = _
              rw [show (⟨#[124]⟩ : ByteArray) = strC [124] by kernel_rfl]
              simp only [strC_app]
            have FF := Lib.hid F
            clear x0 x1 x2 x3 x4 x5 x6 x7 a0 a1 a2 a3 a4 a5 a6 a7 tl kbl
            obtain ⟨⟨y0, y1, y2, y3, y4, y5, y6, y7⟩, -⟩ := K5.out.all
            obtain ⟨⟨x0, x1, x2, x3, x4, x5, x6, x7⟩, -⟩ := T5.out.all
            have tl5 := T5.out.lt
            have kl5 := K5.out.lt
            generalize strC l = s0 at *
            generalize strC lf = sf at *
            clear D1 h1 h2 h3 hb5 F zl zf zs T2 B2 KT FIN HLL
            go_wp2_with fail
            go_roundw
            case rel => exact ⟨i + 1, l ++ [124] ++ lf, by omega, by rw [EQ.out], by simp, FF, T5, B5⟩
            case measure => simp [intOf]; omega
          · have qi0 : ¬ (0 : Int) < (i : Int) := by omega
            go_wp2_with fail
            refine D1.out.mono ?_
            rintro e w5 ⟨lf, rfl, h1, h2, h3, hb5⟩
            have F := FIN.out lf [] lf h1 h2 h3 (by rw [if_neg (by omega)]) (by rw [← KO.out]; rfl)
            have T5 := Lib.hid (T2.out.below hb5)
            have B5 := Lib.hid (B2.out.trans (hb5.mono B2.out.size))
            have K5 := Lib.hid (KT.out.below hb5)
            have zl : (strC l).size < 1000 := by have := HLL.out; omega
            have zf : (strC lf).size ≤ 1000000 := by rw [strC_size]; have := HKS.out; omega
            have zs : (strC l).size ≤ 1001 := by omega
            have qa := fun W => run_string_add_sum (P := Try.prog) W (strC l) (strC lf) (by omega)
            have EQ : Hid ((strC l) ++ strC lf = strC (l ++ [] ++ lf)) := by
              show _ = _
              simp only [strC_app]
              congr 1
              all_goals simp
            have FF := Lib.hid F
            clear x0 x1 x2 x3 x4 x5 x6 x7 a0 a1 a2 a3 a4 a5 a6 a7 tl kbl
            obtain ⟨⟨y0, y1, y2, y3, y4, y5, y6, y7⟩, -⟩ := K5.out.all
            obtain ⟨⟨x0, x1, x2, x3, x4, x5, x6, x7⟩, -⟩ := T5.out.all
            have tl5 := T5.out.lt
            have kl5 := K5.out.lt
            generalize strC l = s0 at *
            generalize strC lf = sf at *
            clear D1 h1 h2 h3 hb5 F zl zf zs T2 B2 KT FIN HLL
            go_wp2_with fail
            go_roundw
            case rel => exact ⟨i + 1, l ++ [] ++ lf, by omega, by rw [EQ.out], by simp, FF, T5, B5⟩
            case measure => simp [intOf]; omega
        · by_cases hi0 : 0 < i
          · have qi0 : (0 : Int) < (i : Int) := by omega
            go_wp2_with fail
            refine D1.out.mono ?_
            rintro e w5 ⟨lf, rfl, h1, h2, h3, hb5⟩
            have F := FIN.out lf [124] lf h1 h2 h3 (by simp [hi0]) (by rw [← KO.out]; rfl)
            have T5 := Lib.hid (T2.out.below hb5)
            have B5 := Lib.hid (B2.out.trans (hb5.mono B2.out.size))
            have K5 := Lib.hid (KT.out.below hb5)
            have zl : (strC l).size < 1000 := by have := HLL.out; omega
            have zf : (strC lf).size ≤ 1000000 := by rw [strC_size]; have := HKS.out; omega
            have qs := fun W => run_string_add_sum (P := Try.prog) W (strC l) ⟨#[124]⟩ (by show _ + 1 ≤ _; omega)
            have zs : (strC l ++ ⟨#[124]⟩).size ≤ 1001 := by rw [ByteArray.size_append]; show _ + 1 ≤ _; omega
            have qa := fun W => run_string_add_sum (P := Try.prog) W (strC l ++ ⟨#[124]⟩) (strC lf) (by omega)
            have EQ : Hid ((strC l ++ ⟨#[124]⟩) ++ strC lf = strC (l ++ [124] ++ lf)) := by
              show _ = _
              rw [show (⟨#[124]⟩ : ByteArray) = strC [124] by kernel_rfl]
              simp only [strC_app]
            have FF := Lib.hid F
            clear x0 x1 x2 x3 x4 x5 x6 x7 a0 a1 a2 a3 a4 a5 a6 a7 tl kbl
            obtain ⟨⟨y0, y1, y2, y3, y4, y5, y6, y7⟩, -⟩ := K5.out.all
            obtain ⟨⟨x0, x1, x2, x3, x4, x5, x6, x7⟩, -⟩ := T5.out.all
            have tl5 := T5.out.lt
            have kl5 := K5.out.lt
            generalize strC l = s0 at *
            generalize strC lf = sf at *
            clear D1 h1 h2 h3 hb5 F zl zf zs T2 B2 KT FIN HLL
            go_wp2_with fail
            go_roundw
            case rel => exact ⟨i + 1, l ++ [124] ++ lf, by omega, by rw [EQ.out], by simp, FF, T5, B5⟩
            case measure => simp [intOf]; omega
          · have qi0 : ¬ (0 : Int) < (i : Int) := by omega
            go_wp2_with fail
            refine D1.out.mono ?_
            rintro e w5 ⟨lf, rfl, h1, h2, h3, hb5⟩
            have F := FIN.out lf [] lf h1 h2 h3 (by rw [if_neg (by omega)]) (by rw [← KO.out]; rfl)
            have T5 := Lib.hid (T2.out.below hb5)
            have B5 := Lib.hid (B2.out.trans (hb5.mono B2.out.size))
            have K5 := Lib.hid (KT.out.below hb5)
            have zl : (strC l).size < 1000 := by have := HLL.out; omega
            have zf : (strC lf).size ≤ 1000000 := by rw [strC_size]; have := HKS.out; omega
            have zs : (strC l).size ≤ 1001 := by omega
            have qa := fun W => run_string_add_sum (P := Try.prog) W (strC l) (strC lf) (by omega)
            have EQ : Hid ((strC l) ++ strC lf = strC (l ++ [] ++ lf)) := by
              show _ = _
              simp only [strC_app]
              congr 1
              all_goals simp
            have FF := Lib.hid F
            clear x0 x1 x2 x3 x4 x5 x6 x7 a0 a1 a2 a3 a4 a5 a6 a7 tl kbl
            obtain ⟨⟨y0, y1, y2, y3, y4, y5, y6, y7⟩, -⟩ := K5.out.all
            obtain ⟨⟨x0, x1, x2, x3, x4, x5, x6, x7⟩, -⟩ := T5.out.all
            have tl5 := T5.out.lt
            have kl5 := K5.out.lt
            generalize strC l = s0 at *
            generalize strC lf = sf at *
            clear D1 h1 h2 h3 hb5 F zl zf zs T2 B2 KT FIN HLL
            go_wp2_with fail
            go_roundw
            case rel => exact ⟨i + 1, l ++ [] ++ lf, by omega, by rw [EQ.out], by simp, FF, T5, B5⟩
            case measure => simp [intOf]; omega
        · by_cases hi0 : 0 < i
          · have qi0 : (0 : Int) < (i : Int) := by omega
            go_wp2_with fail
            refine D1.out.mono ?_
            rintro e w5 ⟨lf, rfl, h1, h2, h3, hb5⟩
            have F := FIN.out lf [124] (40 :: (lf ++ [41])) h1 h2 h3 (by simp [hi0]) (by rw [← KO.out]; rfl)
            have T5 := Lib.hid (T2.out.below hb5)
            have B5 := Lib.hid (B2.out.trans (hb5.mono B2.out.size))
            have K5 := Lib.hid (KT.out.below hb5)
            have zl : (strC l).size < 1000 := by have := HLL.out; omega
            have zf : (strC lf).size ≤ 1000000 := by rw [strC_size]; have := HKS.out; omega
            have qs := fun W => run_string_add_sum (P := Try.prog) W (strC l) ⟨#[124]⟩ (by show _ + 1 ≤ _; omega)
            have zs : (strC l ++ ⟨#[124]⟩).size ≤ 1001 := by rw [ByteArray.size_append]; show _ + 1 ≤ _; omega
            have qk := fun W => run_string_add_sum (P := Try.prog) W ⟨#[40]⟩ (strC lf) (by show 1 + _ ≤ _; omega)
            have zk : (⟨#[40]⟩ ++ strC lf).size ≤ 1000001 := by rw [ByteArray.size_append]; show 1 + _ ≤ _; omega
            have qk2 := fun W => run_string_add_sum (P := Try.prog) W (⟨#[40]⟩ ++ strC lf) ⟨#[41]⟩ (by show _ + 1 ≤ _; omega)
            have zk2 : (⟨#[40]⟩ ++ strC lf ++ ⟨#[41]⟩).size ≤ 1000002 := by rw [ByteArray.size_append]; show _ + 1 ≤ _; omega
            have qa := fun W => run_string_add_sum (P := Try.prog) W (strC l ++ ⟨#[124]⟩) (⟨#[40]⟩ ++ strC lf ++ ⟨#[41]⟩) (by omega)
            clear zk zk2
            have EQ : Hid ((strC l ++ ⟨#[124]⟩) ++ (⟨#[40]⟩ ++ strC lf ++ ⟨#[41]⟩) = strC (l ++ [124] ++ (40 :: (lf ++ [41])))) := by
              show _ = _
              rw [show (⟨#[124]⟩ : ByteArray) = strC [124] by kernel_rfl]
              rw [show (⟨#[40]⟩ : ByteArray) = strC [40] by kernel_rfl, show (⟨#[41]⟩ : ByteArray) = strC [41] by kernel_rfl]
              simp only [strC_app]
              congr 1
              all_goals simp
            have FF := Lib.hid F
            clear x0 x1 x2 x3 x4 x5 x6 x7 a0 a1 a2 a3 a4 a5 a6 a7 tl kbl
            obtain ⟨⟨y0, y1, y2, y3, y4, y5, y6, y7⟩, -⟩ := K5.out.all
            obtain ⟨⟨x0, x1, x2, x3, x4, x5, x6, x7⟩, -⟩ := T5.out.all
            have tl5 := T5.out.lt
            have kl5 := K5.out.lt
            generalize strC l = s0 at *
            generalize strC lf = sf at *
            clear D1 h1 h2 h3 hb5 F zl zf zs T2 B2 KT FIN HLL
            go_wp2_with fail
            go_roundw
            case rel => exact ⟨i + 1, l ++ [124] ++ (40 :: (lf ++ [41])), by omega, by rw [EQ.out], by simp, FF, T5, B5⟩
            case measure => simp [intOf]; omega
          · have qi0 : ¬ (0 : Int) < (i : Int) := by omega
            go_wp2_with fail
            refine D1.out.mono ?_
            rintro e w5 ⟨lf, rfl, h1, h2, h3, hb5⟩
            have F := FIN.out lf [] (40 :: (lf ++ [41])) h1 h2 h3 (by rw [if_neg (by omega)]) (by rw [← KO.out]; rfl)
            have T5 := Lib.hid (T2.out.below hb5)
            have B5 := Lib.hid (B2.out.trans (hb5.mono B2.out.size))
            have K5 := Lib.hid (KT.out.below hb5)
            have zl : (strC l).size < 1000 := by have := HLL.out; omega
            have zf : (strC lf).size ≤ 1000000 := by rw [strC_size]; have := HKS.out; omega
            have zs : (strC l).size ≤ 1001 := by omega
            have qk := fun W => run_string_add_sum (P := Try.prog) W ⟨#[40]⟩ (strC lf) (by show 1 + _ ≤ _; omega)
            have zk : (⟨#[40]⟩ ++ strC lf).size ≤ 1000001 := by rw [ByteArray.size_append]; show 1 + _ ≤ _; omega
            have qk2 := fun W => run_string_add_sum (P := Try.prog) W (⟨#[40]⟩ ++ strC lf) ⟨#[41]⟩ (by show _ + 1 ≤ _; omega)
            have zk2 : (⟨#[40]⟩ ++ strC lf ++ ⟨#[41]⟩).size ≤ 1000002 := by rw [ByteArray.size_append]; show _ + 1 ≤ _; omega
            have qa := fun W => run_string_add_sum (P := Try.prog) W (strC l) (⟨#[40]⟩ ++ strC lf ++ ⟨#[41]⟩) (by omega)
            clear zk zk2
            have EQ : Hid ((strC l) ++ (⟨#[40]⟩ ++ strC lf ++ ⟨#[41]⟩) = strC (l ++ [] ++ (40 :: (lf ++ [41])))) := by
              show _ = _
              rw [show (⟨#[40]⟩ : ByteArray) = strC [40] by kernel_rfl, show (⟨#[41]⟩ : ByteArray) = strC [41] by kernel_rfl]
              simp only [strC_app]
              congr 1
              all_goals simp
            have FF := Lib.hid F
            clear x0 x1 x2 x3 x4 x5 x6 x7 a0 a1 a2 a3 a4 a5 a6 a7 tl kbl
            obtain ⟨⟨y0, y1, y2, y3, y4, y5, y6, y7⟩, -⟩ := K5.out.all
            obtain ⟨⟨x0, x1, x2, x3, x4, x5, x6, x7⟩, -⟩ := T5.out.all
            have tl5 := T5.out.lt
            have kl5 := K5.out.lt
            generalize strC l = s0 at *
            generalize strC lf = sf at *
            clear D1 h1 h2 h3 hb5 F zl zf zs T2 B2 KT FIN HLL
            go_wp2_with fail
            go_roundw
            case rel => exact ⟨i + 1, l ++ [] ++ (40 :: (lf ++ [41])), by omega, by rw [EQ.out], by simp, FF, T5, B5⟩
            case measure => simp [intOf]; omega
        · by_cases hi0 : 0 < i
          · have qi0 : (0 : Int) < (i : Int) := by omega
            go_wp2_with fail
            refine D1.out.mono ?_
            rintro e w5 ⟨lf, rfl, h1, h2, h3, hb5⟩
            have F := FIN.out lf [124] lf h1 h2 h3 (by simp [hi0]) (by rw [← KO.out]; rfl)
            have T5 := Lib.hid (T2.out.below hb5)
            have B5 := Lib.hid (B2.out.trans (hb5.mono B2.out.size))
            have K5 := Lib.hid (KT.out.below hb5)
            have zl : (strC l).size < 1000 := by have := HLL.out; omega
            have zf : (strC lf).size ≤ 1000000 := by rw [strC_size]; have := HKS.out; omega
            have qs := fun W => run_string_add_sum (P := Try.prog) W (strC l) ⟨#[124]⟩ (by show _ + 1 ≤ _; omega)
            have zs : (strC l ++ ⟨#[124]⟩).size ≤ 1001 := by rw [ByteArray.size_append]; show _ + 1 ≤ _; omega
            have qa := fun W => run_string_add_sum (P := Try.prog) W (strC l ++ ⟨#[124]⟩) (strC lf) (by omega)
            have EQ : Hid ((strC l ++ ⟨#[124]⟩) ++ strC lf = strC (l ++ [124] ++ lf)) := by
              show _ = _
              rw [show (⟨#[124]⟩ : ByteArray) = strC [124] by kernel_rfl]
              simp only [strC_app]
            have FF := Lib.hid F
            clear x0 x1 x2 x3 x4 x5 x6 x7 a0 a1 a2 a3 a4 a5 a6 a7 tl kbl
            obtain ⟨⟨y0, y1, y2, y3, y4, y5, y6, y7⟩, -⟩ := K5.out.all
            obtain ⟨⟨x0, x1, x2, x3, x4, x5, x6, x7⟩, -⟩ := T5.out.all
            have tl5 := T5.out.lt
            have kl5 := K5.out.lt
            generalize strC l = s0 at *
            generalize strC lf = sf at *
            clear D1 h1 h2 h3 hb5 F zl zf zs T2 B2 KT FIN HLL
            go_wp2_with fail
            go_roundw
            case rel => exact ⟨i + 1, l ++ [124] ++ lf, by omega, by rw [EQ.out], by simp, FF, T5, B5⟩
            case measure => simp [intOf]; omega
          · have qi0 : ¬ (0 : Int) < (i : Int) := by omega
            go_wp2_with fail
            refine D1.out.mono ?_
            rintro e w5 ⟨lf, rfl, h1, h2, h3, hb5⟩
            have F := FIN.out lf [] lf h1 h2 h3 (by rw [if_neg (by omega)]) (by rw [← KO.out]; rfl)
            have T5 := Lib.hid (T2.out.below hb5)
            have B5 := Lib.hid (B2.out.trans (hb5.mono B2.out.size))
            have K5 := Lib.hid (KT.out.below hb5)
            have zl : (strC l).size < 1000 := by have := HLL.out; omega
            have zf : (strC lf).size ≤ 1000000 := by rw [strC_size]; have := HKS.out; omega
            have zs : (strC l).size ≤ 1001 := by omega
            have qa := fun W => run_string_add_sum (P := Try.prog) W (strC l) (strC lf) (by omega)
            have EQ : Hid ((strC l) ++ strC lf = strC (l ++ [] ++ lf)) := by
              show _ = _
              simp only [strC_app]
              congr 1
              all_goals simp
            have FF := Lib.hid F
            clear x0 x1 x2 x3 x4 x5 x6 x7 a0 a1 a2 a3 a4 a5 a6 a7 tl kbl
            obtain ⟨⟨y0, y1, y2, y3, y4, y5, y6, y7⟩, -⟩ := K5.out.all
            obtain ⟨⟨x0, x1, x2, x3, x4, x5, x6, x7⟩, -⟩ := T5.out.all
            have tl5 := T5.out.lt
            have kl5 := K5.out.lt
            generalize strC l = s0 at *
            generalize strC lf = sf at *
            clear D1 h1 h2 h3 hb5 F zl zf zs T2 B2 KT FIN HLL
            go_wp2_with fail
            go_roundw
            case rel => exact ⟨i + 1, l ++ [] ++ lf, by omega, by rw [EQ.out], by simp, FF, T5, B5⟩
            case measure => simp [intOf]; omega
      · have ql : ¬ ((strC l).size : Int) < 1000 := by omega
        have LE : Hid (szL (ks.take i) ≤ szL ks) := by
          have h := szL_take ks i; exact h
        have MO := formL_mono 7 (ks.take i) (ks.drop i) true
        rw [List.take_append_drop] at MO
        have X := Lib.hid (OUT.out l wr (by
          right
          rcases hE.out.1 with h | ⟨h, h'⟩
          · rw [← h] at MO; omega
          · omega) (by have h1 := hE.out.2.1; have h2 := LE.out; omega) hE.out.2.2 hB.out)
        clear MO LE hE hB hlen hsz OUT
        generalize strC l = s0 at *
        go_wp2
        go_ret
        exact X.out
    · have qi : ¬ (i : Int) < (n : Int) := by omega
      obtain rfl : i = n := by omega
      have e1 : ks.take i = ks := List.take_of_length_le (by have := HN.out; omega)
      rw [e1] at hE
      have X := Lib.hid (OUT.out l wr hE.out.1 (by have h1 := hE.out.2.1; omega) hE.out.2.2 hB.out)
      clear e1 hE hB hsz OUT
      generalize strC l = s0 at *
      go_wp2
      go_ret
      exact X.out
end Go.Proofs.Ytkljagffccommaa
namespace Go.Proofs.Ytkljagffccommaa
open Go.RowKit
theorem formR_any : ∀ t : Tm, rightT t = true → szT t ≤ 500 → ∀ (d : TD) (w : World), TR w t d → Calls Try.prog 59 #[d.val] w (FormR w t) := by
  intro t
  induction t using Tm.ind with
  | h op f lo hi ks ih =>
  intro hr hz d w ht
  have R := right_is hr
  have h1 := R.op1
  have h8 := R.op8
  have h : op = 1 ∨ op = 2 ∨ op = 3 ∨ op = 4 ∨ op = 5 ∨ op = 6 ∨ op = 7 ∨ op = 8 := by omega
  rcases h with rfl | rfl | rfl | rfl | rfl | rfl | rfl | rfl
  · exact formR_1 f lo hi ks d w ht
  · exact formR_2 f lo hi ks d w ht
  · exact formR_3 f lo hi ks d w ht
  · exact formR_4 f lo hi ks d w ht
  · exact formR_5 f lo hi ks d w ht
  · exact formR_6 f lo hi ks d w hr hz ht ih
  · exact formR_7 f lo hi ks d w hr hz ht ih
  · exact formR_8 f lo hi ks d w hr hz ht ih
end Go.Proofs.Ytkljagffccommaa
