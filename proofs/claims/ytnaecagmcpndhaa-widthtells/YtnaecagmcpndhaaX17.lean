/- The document's Most of rows and choices. -/
import Derived.Test.YtnaecagmcpndhaaX15
namespace Go.Proofs.Ytnaecagmcpndhaa
open Go.RowKit
set_option maxRecDepth 100000 in
set_option maxHeartbeats 2000000 in
theorem most_6 (f : Nat → Bool) (lo hi : Int) (ks : List Tm) (d : TD) (w : World) (ht : TR w (.mk 6 f lo hi ks) d) (hal : ∀ k ∈ ks, (spanT k).a = true) (hs : ∀ k ∈ ks, (spanT k).m = -1 ∨ Sm (spanT k).m) (ha : ∀ k ∈ ks, ∀ (d : TD) (w : World), TR w k d → Calls Try.prog 50 #[d.val] w (Tells w (.bool (spanT k).a))) (ih : ∀ k ∈ ks, (spanT k).a = true → ∀ (d : TD) (w : World), TR w k d → Calls Try.prog 52 #[d.val] w (Tells w (.int .i64 (spanT k).m))) : Calls Try.prog 52 #[d.val] w (Tells w (.int .i64 (catMs ks 0))) := by
  cases ht with
  | mk _ _ _ _ _ q A c ds hq hl hn hk hr =>
  obtain ⟨n, hnn⟩ : ∃ n, ks.length = n := ⟨_, rfl⟩
  rw [hnn] at hn ⊢
  have T1 : Hid (TB (w.alloc (.cells #[.int .i64 6, .int .u64 (uv (q 0)), .int .u64 (uv (q 1)), .int .u64 (uv (q 2)), .int .u64 (uv (q 3)), .int .i64 lo, .int .i64 hi, .slice A n c] 29)) w.heap.size ⟨6, q, lo, hi, A, n, c⟩) := TB.new w ⟨6, q, lo, hi, A, n, c⟩
  have B1 : Hid (Below w.heap.size w (w.alloc (.cells #[.int .i64 6, .int .u64 (uv (q 0)), .int .u64 (uv (q 1)), .int .u64 (uv (q 2)), .int .u64 (uv (q 3)), .int .i64 lo, .int .i64 hi, .slice A n c] 29))) := below_new w _
  obtain ⟨⟨x0, x1, x2, x3, x4, x5, x6, x7⟩, -⟩ := T1.out.all
  have IA := Lib.hid ha; have IH := Lib.hid ih; have HK := Lib.hid hk; have HR := Lib.hid hr; have HL := Lib.hid hl; have HN := Lib.hid hnn; have HS := Lib.hid hs; have HA := Lib.hid hal
  clear ih ha hk hr hl hnn hs hal
  unfold TD.val
  go_enter Try.func52, Try.ntmps52
  go_wp2_with fail
  go_loopw [3, 4] (fun u v wr => ∃ (i : Nat) (z : Int), i ≤ n ∧ u = .int .i64 z ∧ v = .int .i64 (i : Nat) ∧ Hid (Sm z ∧ catMs (ks.drop i) z = catMs ks 0) ∧ Hid (TB wr w.heap.size ⟨6, q, lo, hi, A, n, c⟩ ∧ Below w.heap.size w wr)) (fun _ v _ => n - (intOf v).toNat)
  case atStart => exact ⟨0, 0, Nat.zero_le _, rfl, rfl, ⟨sm0, by rw [List.drop_zero]⟩, ⟨T1.out, B1.out⟩⟩
  case round =>
    obtain ⟨i, z, hi1, rfl, rfl, hZ, hW⟩ := hrel
    clear T1 B1 x0 x1 x2 x3 x4 x5 x6 x7
    by_cases hlt : i < n
    · have qi : (i : Int) < (n : Int) := by omega
      have hi2 : i < ks.length := by have := HN.out; omega
      have hi4 : i < ds.length := by have h1 := HL.out; omega
      obtain ⟨kb1, off1, rfl, hb1, hc1⟩ := HR.out (by omega)
      obtain ⟨a0, a1, a2, a3, a4, a5, a6, a7⟩ := kid_cells hW.out.2 hb1 hc1 (List.getElem?_eq_getElem hi4)
      obtain ⟨⟨x0, x1, x2, x3, x4, x5, x6, x7⟩, -⟩ := hW.out.1.all
      have k1 := (HK.out i _ _ (List.getElem?_eq_getElem hi2) (List.getElem?_eq_getElem hi4)).keeps hW.out.2
      have kbl : kb1 < wr.heap.size := Nat.lt_of_lt_of_le hb1 hW.out.2.size
      have q6 : IntKind.i64.wrap ((i : Int) + 1) = ((i + 1 : Nat) : Int) := by rw [IntWalk.i64_in _ (by omega)]; omega
      have hm := List.getElem_mem hi2
      have zz : Hid ((if (spanT ks[i]).m < 0 then -1 else catMs (ks.drop (i + 1)) (plusF z (spanT ks[i]).m)) = catMs ks 0) := by show _ = _; rw [← hZ.out.2, List.drop_eq_getElem_cons hi2, catMs]
      have hge := List.getElem?_eq_getElem hi4
      generalize ks[i] = kt at *
      generalize ds[i] = dt at *
      have D1 := Lib.hid (IA.out kt hm dt _ k1)
      have D2 := Lib.hid (IH.out kt hm)
      have hsm := HS.out kt hm
      have K1 := Lib.hid k1
      have HC := Lib.hid hc1
      have HG := Lib.hid hge
      have HZ := Lib.hid hZ.out.1
      have W2 := hW
      have hka := HA.out kt hm
      clear hc1 k1 hi2 hi4 hm hZ hW hge
      generalize (spanT kt).a = b at *
      generalize (spanT kt).m = y at *
      unfold TD.val at D1
      go_wp2_with fail
      refine D1.out.mono ?_
      rintro e w5 ⟨rfl, hb5⟩
      have W5 : Hid (TB w5 w.heap.size ⟨6, q, lo, hi, some ⟨kb1, off1, none⟩, n, c⟩ ∧ Below w.heap.size w w5) := ⟨W2.out.1.below hb5, W2.out.2.trans (hb5.mono W2.out.2.size)⟩
      have K5 := Lib.hid (K1.out.keeps hb5)
      clear D1 W2 hb5 a0 a1 a2 a3 a4 a5 a6 a7 kbl x0 x1 x2 x3 x4 x5 x6 x7 K1
      subst hka
      · have D3 := Lib.hid (D2.out rfl dt _ K5.out)
        obtain ⟨a0, a1, a2, a3, a4, a5, a6, a7⟩ := kid_cells W5.out.2 hb1 HC.out HG.out
        obtain ⟨⟨x0, x1, x2, x3, x4, x5, x6, x7⟩, -⟩ := W5.out.1.all
        have kbl : kb1 < w5.heap.size := Nat.lt_of_lt_of_le hb1 W5.out.2.size
        clear D2 HC HG K5 hb1
        unfold TD.val at D3
        go_wp2_with fail
        refine D3.out.mono ?_
        rintro e w6 ⟨rfl, hb6⟩
        have W6 : Hid (TB w6 w.heap.size ⟨6, q, lo, hi, some ⟨kb1, off1, none⟩, n, c⟩ ∧ Below w.heap.size w w6) := ⟨W5.out.1.below hb6, W5.out.2.trans (hb6.mono W5.out.2.size)⟩
        clear D3 W5 hb6 a0 a1 a2 a3 a4 a5 a6 a7 kbl x0 x1 x2 x3 x4 x5 x6 x7
        obtain ⟨⟨x0, x1, x2, x3, x4, x5, x6, x7⟩, -⟩ := W6.out.1.all
        by_cases y0 : y < 0
        · rw [if_pos y0] at zz
          go_wp2
          go_ret
          rw [← zz.out]
          exact ⟨rfl, W6.out.2⟩
        · rw [if_neg y0] at zz
          have sy : Sm y := by rcases hsm with h | h; omega; exact h
          have D5 := Lib.hid fun W => cap_any z y W HZ.out sy
          have q9 : IntKind.i64.wrap (z + y) = z + y := by have h1 := HZ.out; unfold Sm at h1 sy; exact IntWalk.i64_in _ (by omega)
          have Z2 : Hid (Sm (plusF z y) ∧ catMs (ks.drop (i + 1)) (plusF z y) = catMs ks 0) := ⟨plusF_sm HZ.out sy, zz.out⟩
          clear zz HZ sy hsm
          go_wp2_with fail
          refine (D5.out _).mono ?_
          rintro e w7 ⟨rfl, rfl⟩
          clear D5
          go_wp2_with fail
          go_roundw
          case rel => exact ⟨i + 1, _, by omega, rfl, by simp, Z2, W6⟩
          case measure => simp [intOf]; omega
    · have ez : z = catMs ks 0 := by rw [← hZ.out.2, List.drop_eq_nil_of_le (by have := HN.out; omega), catMs]
      subst ez
      obtain ⟨⟨x0, x1, x2, x3, x4, x5, x6, x7⟩, -⟩ := hW.out.1.all
      have qi : ¬ (i : Int) < (n : Int) := by omega
      clear hZ
      generalize catMs ks 0 = zl at *
      go_wp2
      go_ret
      exact ⟨rfl, hW.out.2⟩
set_option maxRecDepth 100000 in
set_option maxHeartbeats 2000000 in
theorem most_7 (f : Nat → Bool) (lo hi : Int) (ks : List Tm) (d : TD) (w : World) (ht : TR w (.mk 7 f lo hi ks) d) (hs : ∀ k ∈ ks, (spanT k).m = -1 ∨ Sm (spanT k).m) (ha : ∀ k ∈ ks, ∀ (d : TD) (w : World), TR w k d → Calls Try.prog 50 #[d.val] w (Tells w (.bool (spanT k).a))) (ih : ∀ k ∈ ks, (spanT k).a = true → ∀ (d : TD) (w : World), TR w k d → Calls Try.prog 52 #[d.val] w (Tells w (.int .i64 (spanT k).m))) : Calls Try.prog 52 #[d.val] w (Tells w (.int .i64 (altMs ks 0))) := by
  cases ht with
  | mk _ _ _ _ _ q A c ds hq hl hn hk hr =>
  obtain ⟨n, hnn⟩ : ∃ n, ks.length = n := ⟨_, rfl⟩
  rw [hnn] at hn ⊢
  have T1 : Hid (TB (w.alloc (.cells #[.int .i64 7, .int .u64 (uv (q 0)), .int .u64 (uv (q 1)), .int .u64 (uv (q 2)), .int .u64 (uv (q 3)), .int .i64 lo, .int .i64 hi, .slice A n c] 29)) w.heap.size ⟨7, q, lo, hi, A, n, c⟩) := TB.new w ⟨7, q, lo, hi, A, n, c⟩
  have B1 : Hid (Below w.heap.size w (w.alloc (.cells #[.int .i64 7, .int .u64 (uv (q 0)), .int .u64 (uv (q 1)), .int .u64 (uv (q 2)), .int .u64 (uv (q 3)), .int .i64 lo, .int .i64 hi, .slice A n c] 29))) := below_new w _
  obtain ⟨⟨x0, x1, x2, x3, x4, x5, x6, x7⟩, -⟩ := T1.out.all
  have IA := Lib.hid ha; have IH := Lib.hid ih; have HK := Lib.hid hk; have HR := Lib.hid hr; have HL := Lib.hid hl; have HN := Lib.hid hnn; have HS := Lib.hid hs
  clear ih ha hk hr hl hnn hs
  unfold TD.val
  go_enter Try.func52, Try.ntmps52
  go_wp2_with fail
  go_loopw [3, 4] (fun u v wr => ∃ (i : Nat) (z : Int), i ≤ n ∧ u = .int .i64 z ∧ v = .int .i64 (i : Nat) ∧ Hid (Sm z ∧ altMs (ks.drop i) z = altMs ks 0) ∧ Hid (TB wr w.heap.size ⟨7, q, lo, hi, A, n, c⟩ ∧ Below w.heap.size w wr)) (fun _ v _ => n - (intOf v).toNat)
  case atStart => exact ⟨0, 0, Nat.zero_le _, rfl, rfl, ⟨sm0, by rw [List.drop_zero]⟩, ⟨T1.out, B1.out⟩⟩
  case round =>
    obtain ⟨i, z, hi1, rfl, rfl, hZ, hW⟩ := hrel
    clear T1 B1 x0 x1 x2 x3 x4 x5 x6 x7
    by_cases hlt : i < n
    · have qi : (i : Int) < (n : Int) := by omega
      have hi2 : i < ks.length := by have := HN.out; omega
      have hi4 : i < ds.length := by have h1 := HL.out; omega
      obtain ⟨kb1, off1, rfl, hb1, hc1⟩ := HR.out (by omega)
      obtain ⟨a0, a1, a2, a3, a4, a5, a6, a7⟩ := kid_cells hW.out.2 hb1 hc1 (List.getElem?_eq_getElem hi4)
      obtain ⟨⟨x0, x1, x2, x3, x4, x5, x6, x7⟩, -⟩ := hW.out.1.all
      have k1 := (HK.out i _ _ (List.getElem?_eq_getElem hi2) (List.getElem?_eq_getElem hi4)).keeps hW.out.2
      have kbl : kb1 < wr.heap.size := Nat.lt_of_lt_of_le hb1 hW.out.2.size
      have q6 : IntKind.i64.wrap ((i : Int) + 1) = ((i + 1 : Nat) : Int) := by rw [IntWalk.i64_in _ (by omega)]; omega
      have hm := List.getElem_mem hi2
      have zz : Hid ((if (spanT ks[i]).a then (if (spanT ks[i]).m < 0 then -1 else altMs (ks.drop (i + 1)) (if z < (spanT ks[i]).m then (spanT ks[i]).m else z)) else altMs (ks.drop (i + 1)) z) = altMs ks 0) := by show _ = _; rw [← hZ.out.2, List.drop_eq_getElem_cons hi2, altMs]
      have hge := List.getElem?_eq_getElem hi4
      generalize ks[i] = kt at *
      generalize ds[i] = dt at *
      have D1 := Lib.hid (IA.out kt hm dt _ k1)
      have D2 := Lib.hid (IH.out kt hm)
      have hsm := HS.out kt hm
      have K1 := Lib.hid k1
      have HC := Lib.hid hc1
      have HG := Lib.hid hge
      have HZ := Lib.hid hZ.out.1
      have W2 := hW
      clear hc1 k1 hi2 hi4 hm hZ hW hge
      generalize (spanT kt).a = b at *
      generalize (spanT kt).m = y at *
      unfold TD.val at D1
      go_wp2_with fail
      refine D1.out.mono ?_
      rintro e w5 ⟨rfl, hb5⟩
      have W5 : Hid (TB w5 w.heap.size ⟨7, q, lo, hi, some ⟨kb1, off1, none⟩, n, c⟩ ∧ Below w.heap.size w w5) := ⟨W2.out.1.below hb5, W2.out.2.trans (hb5.mono W2.out.2.size)⟩
      have K5 := Lib.hid (K1.out.keeps hb5)
      clear D1 W2 hb5 a0 a1 a2 a3 a4 a5 a6 a7 kbl x0 x1 x2 x3 x4 x5 x6 x7 K1
      cases b
      · have Z2 : Hid (Sm z ∧ altMs (ks.drop (i + 1)) z = altMs ks 0) := ⟨HZ.out, by have := zz.out; rw [if_neg (by decide)] at this; exact this⟩
        clear D2 HC HG K5 zz HZ hsm
        go_wp2_with fail
        go_roundw
        case rel => exact ⟨i + 1, z, by omega, rfl, by simp, Z2, W5⟩
        case measure => simp [intOf]; omega
      · have D3 := Lib.hid (D2.out rfl dt _ K5.out)
        obtain ⟨a0, a1, a2, a3, a4, a5, a6, a7⟩ := kid_cells W5.out.2 hb1 HC.out HG.out
        obtain ⟨⟨x0, x1, x2, x3, x4, x5, x6, x7⟩, -⟩ := W5.out.1.all
        have kbl : kb1 < w5.heap.size := Nat.lt_of_lt_of_le hb1 W5.out.2.size
        clear D2 HC HG K5 hb1
        unfold TD.val at D3
        rw [if_pos rfl] at zz
        go_wp2_with fail
        refine D3.out.mono ?_
        rintro e w6 ⟨rfl, hb6⟩
        have W6 : Hid (TB w6 w.heap.size ⟨7, q, lo, hi, some ⟨kb1, off1, none⟩, n, c⟩ ∧ Below w.heap.size w w6) := ⟨W5.out.1.below hb6, W5.out.2.trans (hb6.mono W5.out.2.size)⟩
        clear D3 W5 hb6 a0 a1 a2 a3 a4 a5 a6 a7 kbl x0 x1 x2 x3 x4 x5 x6 x7
        obtain ⟨⟨x0, x1, x2, x3, x4, x5, x6, x7⟩, -⟩ := W6.out.1.all
        by_cases y0 : y < 0
        · rw [if_pos y0] at zz
          go_wp2
          go_ret
          rw [← zz.out]
          exact ⟨rfl, W6.out.2⟩
        · rw [if_neg y0] at zz
          have sy : Sm y := by rcases hsm with h | h; omega; exact h
          by_cases z1 : z < y
          · rw [if_pos z1] at zz
            have Z2 : Hid (Sm y ∧ altMs (ks.drop (i + 1)) y = altMs ks 0) := ⟨sy, zz.out⟩
            clear zz HZ sy hsm
            go_wp2_with fail
            go_roundw
            case rel => exact ⟨i + 1, y, by omega, rfl, by simp, Z2, W6⟩
            case measure => simp [intOf]; omega
          · rw [if_neg z1] at zz
            have Z2 : Hid (Sm z ∧ altMs (ks.drop (i + 1)) z = altMs ks 0) := ⟨HZ.out, zz.out⟩
            clear zz HZ sy hsm
            go_wp2_with fail
            go_roundw
            case rel => exact ⟨i + 1, z, by omega, rfl, by simp, Z2, W6⟩
            case measure => simp [intOf]; omega
    · have ez : z = altMs ks 0 := by rw [← hZ.out.2, List.drop_eq_nil_of_le (by have := HN.out; omega), altMs]
      subst ez
      obtain ⟨⟨x0, x1, x2, x3, x4, x5, x6, x7⟩, -⟩ := hW.out.1.all
      have qi : ¬ (i : Int) < (n : Int) := by omega
      clear hZ
      generalize altMs ks 0 = zl at *
      go_wp2
      go_ret
      exact ⟨rfl, hW.out.2⟩
end Go.Proofs.Ytnaecagmcpndhaa
