/- The document's Show. The walk of ShowWrites. -/
import Derived.Test.YtegehcdjnnajcaaDoorA10
import Derived.Test.YtegehcdjnnajcaaDoorA8
import Derived.Test.YtegehcdjnnajcaaDoorB23h
import Derived.Test.YtegehcdjnnajcaaDoorA6
namespace Go.Proofs.YtegehcdjnnajcaaDoor
open Go.RowKit
theorem idx_str (l : List Nat) (hl : ∀ x ∈ l, x < 256) (i : Nat) (hi : i < l.length) (w : World) : (Instr.index 9 (.string (strC l)) (.int .i64 (i : Nat))).run Tryd.prog w = .ok (.int .u8 (bn l i : Nat)) w := by
  rw [run_index_string (P := Tryd.prog) w 9 (strC l) .i64 (i : Nat) Tryd.underlying9]
  have hs : (strC l).size = l.length := strC_size l
  have hx : bn l i = l[i] := by unfold bn; rw [List.getD, List.getElem?_eq_getElem hi]; rfl
  have hb : l[i] < 256 := hl _ (List.getElem_mem hi)
  have hg : (strC l)[i]'(by omega) = l[i].toUInt8 := by
    show ((l.map Nat.toUInt8).toArray)[i]'(by simpa using hi) = _
    simp
  rw [dif_pos ⟨by omega, by omega⟩]
  simp only [Int.toNat_natCast]
  rw [hg, toU8_nat _ hb, hx]
def nd (c : Nat) (d : Int) : Int := if c = 40 then d + 1 else if c = 41 then d - 1 else d
theorem scan_step (c : Nat) (r : List Nat) (d : Int) : scanD (c :: r) d = if 30 < nd c d then true else scanD r (nd c d) := rfl
theorem scan_drop (l : List Nat) (i : Nat) (hi : i < l.length) : l.drop i = bn l i :: l.drop (i + 1) := by
  rw [List.drop_eq_getElem_cons hi]
  congr 1
  unfold bn; rw [List.getD, List.getElem?_eq_getElem hi]; rfl
set_option maxRecDepth 100000 in
set_option maxHeartbeats 4000000 in
theorem showR2_any0 (HRT0 : ∀ (t : Tm) (d : TD) (w : World), TR w t d → Calls Tryd.prog 15 #[d.val] w (Tells w (.bool (rightT t))))
    (HF0 : ∀ t : Tm, rightT t = true → szT t ≤ 500 → ∀ (d : TD) (w : World), TR w t d → Calls Tryd.prog 20 #[d.val] w (FormR w t)) (t : Tm) (d : TD) (w : World) (hz : szT t ≤ 500) (ht : TR w t d) :
    Calls Tryd.prog 11 #[d.val] w (GivesF w (showR t)) := by
  have nb := below_new w (.cells d.cells 27)
  have B1 := Lib.hid nb
  have T1 := Lib.hid (TB.new w d)
  have R1 := Lib.hid (ht.keeps nb)
  have D1 := HRT0 t d _ (ht.keeps nb)
  have HF := Lib.hid fun (h : rightT t = true) => HF0 t h hz d
  clear HRT0 HF0 ht nb
  unfold TD.cells at B1 T1 R1 D1
  unfold TD.val at D1 ⊢
  cases hr : rightT t with
  | false =>
    have E : showR t = ([], 2) := by unfold showR; rw [hr]; rfl
    have E := Lib.hid E
    rw [hr] at D1
    have D1 := Lib.hid D1
    clear hr HF
    go_enter Tryd.func11, Tryd.ntmps11
    go_wp2_with fail
    refine D1.out.mono ?_
    rintro e w2 ⟨rfl, hb2⟩
    have B2 := Lib.hid (B1.out.trans (hb2.mono B1.out.size))
    clear D1 hb2
    go_wp2
    go_ret2
    exact GivesF.no E.out B2.out
  | true =>
    rw [hr] at D1
    have D1 := Lib.hid D1
    have HF2 := Lib.hid (HF.out hr)
    have HR := Lib.hid hr
    unfold TD.val at HF2
    clear hr HF
    go_enter Tryd.func11, Tryd.ntmps11
    go_wp2_with fail
    refine D1.out.mono ?_
    rintro e w2 ⟨rfl, hb2⟩
    have B2 := Lib.hid (B1.out.trans (hb2.mono B1.out.size))
    have T2 := Lib.hid (T1.out.below hb2)
    have D2 := Lib.hid (HF2.out w2 (R1.out.keeps hb2))
    obtain ⟨⟨x0, x1, x2, x3, x4, x5, x6, x7⟩, -⟩ := T2.out.all
    clear D1 hb2 B1 T1 R1 HF2
    go_wp2_with fail
    refine D2.out.mono ?_
    rintro e w3 ⟨l, rfl, hE, hle, hby, hb3⟩
    have B3 := Lib.hid (B2.out.trans (hb3.mono B2.out.size))
    have hs : (strC l).size = l.length := strC_size l
    clear D2 hb3 B2 T2 x0 x1 x2 x3 x4 x5 x6 x7
    by_cases hfull : 200 < l.length
    · have E : showR t = ([], 1) := by
        have h2 : 200 < (formT t).length := by
          rcases hE with rfl | ⟨_, b⟩
          · exact hfull
          · exact b
        unfold showR; rw [if_pos HR.out, if_pos h2]
      have E := Lib.hid E
      have qf : (200 : Int) < ((strC l).size : Int) := by omega
      clear hE hle hby hs hfull
      generalize strC l = s at *
      go_wp2
      go_ret2
      exact GivesF.no E.out B3.out
    · have hl : l = formT t := by
        rcases hE with h | ⟨h, _⟩
        · exact h
        · exact absurd h hfull
      have qf : ¬ (200 : Int) < ((strC l).size : Int) := by omega
      have SC : Hid (scanD l 0 = decide (30 < depT t)) := by show scanD l 0 = _; rw [hl]; exact scan_whole t
      have DEEP : Hid (30 < depT t → ∀ W', Below w.heap.size w W' → GivesF w (showR t) (.returned (.tuple #[.string ⟨#[]⟩, .int .i64 52])) W') := fun h W' hb => GivesF.no (by
        unfold showR; rw [if_pos HR.out, if_neg (by rw [← hl]; exact hfull), if_pos h]) hb
      have FINE : Hid (¬ 30 < depT t → ∀ W', Below w.heap.size w W' → GivesF w (showR t) (.returned (.tuple #[.string (strC l), .int .i64 0])) W') := fun h W' hb => GivesF.yes (l := l) (by
        unfold showR; rw [if_pos HR.out, if_neg (by rw [← hl]; exact hfull), if_neg h, hl]) hby hb
      have IX := Lib.hid fun (i : Nat) (hi : i < l.length) W => idx_str l hby i hi W
      have SD := Lib.hid fun (i : Nat) (hi : i < l.length) => scan_drop l i hi
      have L2 := Lib.hid (And.intro hs hfull)
      obtain ⟨n, hn⟩ : ∃ n, l.length = n := ⟨_, rfl⟩
      have n200 : n ≤ 200 := by omega
      have HN := Lib.hid hn
      have qn : ((strC l).size : Int) = (n : Int) := by omega
      clear hE hle hs hfull hl hby
      go_wp2_with fail
      go_loop [5, 6] (fun u v => ∃ (i : Nat) (dp : Int), i ≤ n ∧ v = .int .i64 (i : Nat) ∧ u = .int .i64 dp ∧ dp ≤ 30 ∧ -(i : Int) ≤ dp ∧ Hid (scanD (l.drop i) dp = scanD l 0)) (fun _ v => n - (intOf v).toNat)
      case atStart => exact ⟨0, 0, Nat.zero_le _, rfl, rfl, by omega, by omega, Lib.hid rfl⟩
      case round =>
        obtain ⟨i, dp, hi1, rfl, rfl, hd30, hdl, hS⟩ := hrel
        by_cases hlt : i < n
        · have qi : (i : Int) < (n : Int) := by omega
          have hil : i < l.length := by have := HN.out; omega
          have ix := IX.out i hil
          have sd := SD.out i hil
          have q6 : IntKind.i64.wrap ((i : Int) + 1) = ((i + 1 : Nat) : Int) := by rw [IntWalk.i64_in _ (by omega)]; omega
          have HS : Hid (scanD (bn l i :: l.drop (i + 1)) dp = scanD l 0) := by show _ = _; rw [← sd]; exact hS.out
          clear sd hS hil
          generalize bn l i = x at *
          by_cases h40 : x = 40
          · subst h40
            have q7 : IntKind.i64.wrap (dp + 1) = dp + 1 := by rw [IntWalk.i64_in _ (by omega)]
            by_cases hd : 30 < dp + 1
            · have E : Hid (30 < depT t) := by
                have h1 := HS.out
                rw [scan_step, show nd 40 dp = dp + 1 from rfl, if_pos hd, SC.out] at h1
                show 30 < depT t
                exact of_decide_eq_true h1.symm
              have X := Lib.hid (DEEP.out E.out _ B3.out)
              clear HS SC DEEP FINE E
              generalize strC l = s at *
              go_wp2
              go_ret2
              exact X.out
            · have S2 : Hid (scanD (l.drop (i + 1)) (dp + 1) = scanD l 0) := by
                have h1 := HS.out
                rw [scan_step, show nd 40 dp = dp + 1 from rfl, if_neg hd] at h1
                exact h1
              clear HS
              go_wp2
              go_round
              case rel => exact ⟨i + 1, dp + 1, by omega, by simp, by simp, by omega, by omega, S2⟩
              case measure => simp [intOf]; omega
          by_cases h41 : x = 41
          · subst h41
            have q7 : IntKind.i64.wrap (dp - 1) = dp - 1 := by rw [IntWalk.i64_in _ (by omega)]
            have hd : ¬ 30 < dp - 1 := by omega
            have S2 : Hid (scanD (l.drop (i + 1)) (dp - 1) = scanD l 0) := by
              have h1 := HS.out
              rw [scan_step, show nd 41 dp = dp - 1 from rfl, if_neg hd] at h1
              exact h1
            clear HS
            go_wp2
            go_round
            case rel => exact ⟨i + 1, dp - 1, by omega, by simp, by simp, by omega, by omega, S2⟩
            case measure => simp [intOf]; omega
          · have hd : ¬ 30 < dp := by omega
            have q8 : ((x : Int) == 40) = false := by rw [beq_eq_false_iff_ne]; omega
            have q9 : ((x : Int) == 41) = false := by rw [beq_eq_false_iff_ne]; omega
            have S2 : Hid (scanD (l.drop (i + 1)) dp = scanD l 0) := by
              have h1 := HS.out
              rw [scan_step, show nd x dp = dp from by unfold nd; rw [if_neg h40, if_neg h41], if_neg hd] at h1
              exact h1
            clear HS h40 h41
            go_wp2
            go_round
            case rel => exact ⟨i + 1, dp, by omega, by simp, rfl, by omega, by omega, S2⟩
            case measure => simp [intOf]; omega
        · have qi : ¬ (i : Int) < (n : Int) := by omega
          obtain rfl : i = n := by omega
          have X : Hid (GivesF w (showR t) (.returned (.tuple #[.string (strC l), .int .i64 0])) w3) := by
            refine FINE.out ?_ _ B3.out
            have h1 := hS.out
            rw [List.drop_of_length_le (by have := HN.out; omega), scanD, SC.out] at h1
            exact of_decide_eq_false h1.symm
          clear hS SC DEEP FINE IX SD
          generalize strC l = s at *
          go_wp2
          go_ret2
          exact X.out
end Go.Proofs.YtegehcdjnnajcaaDoor
namespace Go.Proofs.YtegehcdjnnajcaaDoor
open Go.RowKit
theorem sameT_self (t : Tm) : sameT t t = true := by
  induction t using Tm.ind with
  | h op f lo hi ks ih =>
    have hL : ∀ l : List Tm, (∀ k ∈ l, sameT k k = true) → sameL l l = true := by
      intro l
      induction l with
      | nil => intro _; rw [sameL]
      | cons k r ihl => intro h; rw [sameL, h k (by simp), ihl fun y hy => h y (by simp [hy])]; rfl
    rw [sameT, hL ks ih]
    have e : eqK f f = true := (eqK_iff f f).2 fun _ _ => rfl
    simp [e]
theorem few_sz (t : Tm) : szT t ≤ 500 → Few t := by
  induction t using Tm.ind with
  | h op f lo hi ks ih =>
    intro hz
    rw [szT] at hz
    refine .mk _ _ _ _ _ ?_ fun k hk => ih k hk (by have := szL_mem ks k hk; omega)
    have : ∀ l : List Tm, l.length ≤ szL l := by
      intro l
      induction l with
      | nil => simp
      | cons k r ihl =>
        rw [szL, List.length_cons]
        have h1 : 1 ≤ szT k := by obtain ⟨a, b, c, d, e⟩ := k; exact sz_one a b c d e
        omega
    have := this ks
    omega
set_option maxRecDepth 100000 in
set_option maxHeartbeats 8000000 in
theorem writes_walk0 (HS0 : ∀ (t : Tm) (d : TD) (w : World), szT t ≤ 500 → TR w t d → Calls Tryd.prog 11 #[d.val] w (GivesF w (showR t))) (t : Tm) (d : TD) (w : World) (ht : TR w t d) (hp : Pow w) : Calls Tryd.prog 3 #[d.val] w (Tells w (.bool true)) := by
  have HS := Lib.hid HS0
  have C1 := Lib.hid (Ck.new (Below.refl _ _) ht hp)
  have D1 := Lib.hid (speaks6_any _ C1.out.pow)
  unfold TD.cells at C1 D1
  unfold TD.val
  clear ht hp HS0
  go_enter Tryd.func3, Tryd.ntmps3
  go_wp2_with fail
  refine D1.out.mono ?_
  rintro e w2 ⟨rfl, hb2⟩
  have C2 := step_ck C1 hb2
  have D2 := great_sz t d w2 C2.out.tr
  unfold TD.val at D2
  have D2 := Lib.hid D2
  obtain ⟨⟨x0, x1, x2, x3, x4, x5, x6, x7⟩, -⟩ := C2.out.tb.all
  clear C1 D1 hb2
  go_wp2_with fail
  refine D2.out.mono ?_
  rintro e w3 ⟨b3, rfl, hf3, hb3⟩
  have C3 := step_ck C2 hb3
  clear C2 D2 hb3 x0 x1 x2 x3 x4 x5 x6 x7
  obtain ⟨⟨x0, x1, x2, x3, x4, x5, x6, x7⟩, -⟩ := C3.out.tb.all
  cases b3 with
  | true =>
    go_wp2
    go_ret
    exact ⟨rfl, C3.out.bel⟩
  | false =>
  have SZ := Lib.hid (hf3 rfl)
  have D3 := copy_any t d w3.heap.size w3 (Nat.le_refl _) C3.out.tr.inS (few_sz t SZ.out)
  clear hf3
  unfold TD.val at D3
  have D3 := Lib.hid D3
  go_wp2_with fail
  refine D3.out.mono ?_
  rintro e w4 ⟨d4, rfl, hv4, hb4⟩
  have C4 := step_ck C3 hb4
  have K4 := Lib.hid (Ck.new C4.out.bel hv4.tr C4.out.pow)
  have C4 := step_ck C4 (below_new w4 (.cells d4.cells 27))
  have D4 := show_any t d4 _ K4.out.tr K4.out.pow
  clear C3 D3 hb4 hv4 x0 x1 x2 x3 x4 x5 x6 x7
  obtain ⟨⟨y0, y1, y2, y3, y4, y5, y6, y7⟩, -⟩ := K4.out.tb.all
  unfold TD.val TD.cells at D4
  unfold TD.cells at C4 K4 y0 y1 y2 y3 y4 y5 y6 y7
  have D4 := Lib.hid D4
  have CK : Hid (∀ W, Hid (Ck w W w4.heap.size t d4) → Calls Tryd.prog 12 #[d4.val] W (Tells W (.int .i64 (showR t).2))) := fun W h => check_any t d4 W h.out.tr h.out.pow
  have SM : Hid (∀ W, Hid (Ck w W w4.heap.size t d4) → Hid (Ck w W w.heap.size t d) → Calls Tryd.prog 13 #[d4.val, d.val] W (Tells W (.bool true))) := fun W h h2 => by
    have := same_any t t d4 d W h.out.tr h2.out.tr
    rw [sameT_self t] at this; exact this
  have RS : Hid (∀ W, Hid (Ck w W w.heap.size t d) → Calls Tryd.prog 11 #[d.val] W (GivesF W (showR t))) := fun W h => HS.out t d W SZ.out h.out.tr
  unfold TD.val at CK SM RS
  generalize hS : showR t = r at *
  obtain ⟨l, code⟩ := r
  clear hS HS
  unfold TD.val
  go_wp2_with fail
  refine D4.out.mono ?_
  rintro e w5 ⟨A5, c5, rfl, hB5, hb5⟩
  have C5 := step_ck C4 hb5
  have K5 := step_ck K4 hb5
  have BT5 := Lib.hid hB5
  have D5 := Lib.hid (RS.out w5 C5)
  clear D4 RS hB5 hb5 C4 K4 y0 y1 y2 y3 y4 y5 y6 y7
  obtain ⟨⟨x0, x1, x2, x3, x4, x5, x6, x7⟩, -⟩ := C5.out.tb.all
  have ltc := C5.out.tb.lt
  go_wp2_with fail
  refine D5.out.mono ?_
  rintro e w6 ⟨rfl, hlb, hb6⟩
  have C6 := step_ck C5 hb6
  have K6 := step_ck K5 hb6
  have cv := conv_bts c5 (BT5.out.below hb6)
  have D6 := Lib.hid (CK.out w6 K6)
  clear D5 CK hb6 C5 K5 BT5 hlb x0 x1 x2 x3 x4 x5 x6 x7 ltc
  obtain ⟨⟨y0, y1, y2, y3, y4, y5, y6, y7⟩, -⟩ := K6.out.tb.all
  have ltk := K6.out.tb.lt
  generalize strC l = s at *
  go_wp2_with fail
  refine D6.out.mono ?_
  rintro e w7 ⟨rfl, hb7⟩
  have C7 := step_ck C6 hb7
  have K7 := step_ck K6 hb7
  have D7 := Lib.hid (SM.out w7 K7 C7)
  clear D6 SM hb7 C6 K6 cv y0 y1 y2 y3 y4 y5 y6 y7 ltk
  obtain ⟨⟨x0, x1, x2, x3, x4, x5, x6, x7⟩, -⟩ := C7.out.tb.all
  obtain ⟨⟨y0, y1, y2, y3, y4, y5, y6, y7⟩, -⟩ := K7.out.tb.all
  have ltc := C7.out.tb.lt
  have ltk := K7.out.tb.lt
  go_wp2_with fail
  refine D7.out.mono ?_
  rintro e w8 ⟨rfl, hb8⟩
  have C8 := step_ck C7 hb8
  clear D7 hb8 C7 K7 x0 x1 x2 x3 x4 x5 x6 x7 y0 y1 y2 y3 y4 y5 y6 y7 ltc ltk
  go_wp2
  go_ret
  exact ⟨rfl, C8.out.bel⟩
end Go.Proofs.YtegehcdjnnajcaaDoor
