/- SyntaxByte: its walk. -/
import Derived.Test.YtnaecagmcpndhaaV2a
namespace Go.Proofs.Ytnaecagmcpndhaa
open Go.RowKit
/-- what lies there behind the four readings -/
structure FB (w wr : World) (b k1 k2 k3 k4 kw : Nat) (d1 d2 d3 d4 : TD) : Prop where
  t1 : TB wr k1 d1
  r1 : TR wr (one b) d1
  t2 : TB wr k2 d2
  r2 : TR wr (one b) d2
  t3 : TB wr k3 d3
  r3 : TR wr (one b) d3
  t4 : TB wr k4 d4
  r4 : TR wr (setT (fun i => !rgF b b i)) d4
  cb : CB wr kw (oneq b)
  be : Below w.heap.size w wr
theorem FB.below {w wr w' : World} {b k1 k2 k3 k4 kw : Nat} {d1 d2 d3 d4 : TD} (h : FB w wr b k1 k2 k3 k4 kw d1 d2 d3 d4) (hb : Below wr.heap.size wr w') : FB w w' b k1 k2 k3 k4 kw d1 d2 d3 d4 :=
  ⟨h.t1.below hb, h.r1.keeps hb, h.t2.below hb, h.r2.keeps hb, h.t3.below hb, h.r3.keeps hb, h.t4.below hb, h.r4.keeps hb, h.cb.below hb h.cb.lt, h.be.trans (hb.mono h.be.size)⟩
theorem FB.drewN {w wr : World} {b k1 k2 k3 k4 kw : Nat} {d1 d2 d3 d4 : TD} (h : FB w wr b k1 k2 k3 k4 kw d1 d2 d3 d4) (n : Nat) : FB w (wr.drewN n) b k1 k2 k3 k4 kw d1 d2 d3 d4 := h.below ⟨rfl, rfl, rfl, Nat.le_refl _, fun _ _ => rfl⟩
theorem FB.cells {w wr : World} {b k1 k2 k3 k4 kw : Nat} {d1 d2 d3 d4 : TD} (h : FB w wr b k1 k2 k3 k4 kw d1 d2 d3 d4) (i : Nat) (hi : i < 4) : wr.cell? ⟨k4, 1 + i, none⟩ = some (.int .u64 (uv (~~~(oneq b i)))) ∧ wr.cell? ⟨kw, i, none⟩ = some (.int .u64 (uv (oneq b i))) := by
  refine ⟨?_, h.cb.cell i hi⟩
  obtain ⟨q, A, c, ds, e, hq, _⟩ := h.r4.look
  have hb : b < 256 ∨ 256 ≤ b := by omega
  have e2 : d4.q i = ~~~(oneq b i) := by
    have h2 := word_ext q (fun j => ~~~(oneq b j)) (fun x hx => by
      rw [hq x hx]
      unfold kb
      rw [BitVec.getLsbD_not]
      have : kb (oneq b) x = rgF b b x := by
        rcases hb with hb | hb
        · exact oneq_is b hb x hx
        · unfold kb oneq rgF
          rw [if_neg (by omega)]
          simp
          omega
      unfold kb at this
      rw [this]
      have hx2 : x % 64 < 64 := Nat.mod_lt _ (by decide)
      simp [hx2]) i hi
    rw [e]; exact h2
  rw [← e2]
  obtain ⟨⟨_, x1, x2, x3, x4, _⟩, _⟩ := h.t4.all
  rcases (show i = 0 ∨ i = 1 ∨ i = 2 ∨ i = 3 by omega) with rfl | rfl | rfl | rfl
  · exact x1
  · exact x2
  · exact x3
  · exact x4
set_option maxRecDepth 100000 in
set_option maxHeartbeats 1000000 in
theorem byte_walk0 (m n : Nat) (big : Bool) (w : World) (hm : m < 16) (hn : n < 16) (hk0 : (16 * m + n) / 64 = 0) : Calls Try.prog 7 #[.int .u8 ((16 * m + n : Nat) : Int), .bool big] w (Tells w (.bool true)) := by
  have S := Lib.hid (speaks_any w)
  obtain ⟨h, hh, hh2, hx⟩ := idx_hex big m hm
  obtain ⟨l, hl, hl2, hy⟩ := idx_hex big n hn
  obtain ⟨b, hb⟩ : ∃ b, 16 * m + n = b := ⟨_, rfl⟩
  have q1 : IntKind.u8.wrap ((b : Int) / 16) = (m : Int) := by rw [IntKind.wrap_u8']; omega
  have q2 : (b : Int).tmod 16 = (n : Int) := by rw [Int.tmod_eq_emod_of_nonneg (by omega)]; omega
  have kcv : ∀ W : World, (convert 23 9 (.slice (some ⟨W.heap.size, 0, none⟩) 4 4)).run Try.prog (W.alloc (.cells #[.int .u8 92, .int .u8 120, .int .u8 (h : Nat), .int .u8 (l : Nat)] 5)) = .ok (.string (strN [92, 120, h, l])) (W.alloc (.cells #[.int .u8 92, .int .u8 120, .int .u8 (h : Nat), .int .u8 (l : Nat)] 5)) := fun W =>
    conv_bts 4 (lit_bts W [92, 120, h, l] (0, 0) (by simp; omega)) (by simp)
  have ks := conv_s
  have eb := btl_strN [92, 120, h, l] (by simp; omega)
  rw [hb]
  generalize strN [92, 120, h, l] = sN at *
  have z0 : sN.size = 4 := by rw [← len_btl, eb]; rfl
  have P1 := Lib.hid fun W k n hk hn => reads_s sN _ _ W k n hk hn eb (pb1 hh hl)
  have P2 := Lib.hid fun W k n hk hn => reads_s (⟨#[91]⟩ ++ sN ++ ⟨#[93]⟩) _ _ W k n hk hn (by rw [btl_app, btl_app, eb]; rfl) (pb2 hh hl)
  have P3 := Lib.hid fun W k n hk hn => reads_s (⟨#[91]⟩ ++ sN ++ ⟨#[45]⟩ ++ sN ++ ⟨#[93]⟩) _ _ W k n hk hn (by rw [btl_app, btl_app, btl_app, btl_app, eb]; rfl) (pb3 hh hl)
  have P4 := Lib.hid fun W k n hk hn => reads_s (⟨#[91, 94]⟩ ++ sN ++ ⟨#[93]⟩) _ _ W k n hk hn (by rw [btl_app, btl_app, eb]; rfl) (pb4 hh hl)
  rw [hb] at P1 P2 P3 P4
  have HB := Lib.hid (show b < 256 by omega)
  have q3 : IntKind.u8.wrap ((b : Int) / 64) = (0 : Int) := by rw [IntKind.wrap_u8']; omega
  rw [hb] at hk0
  have U0 : uv (oneq b 0) = (IntKind.u64.wrap ((2 : Int) ^ (b % 64))) := by unfold oneq; rw [if_pos (by omega), uv_pow _ (by omega)]
  have U1 : uv (oneq b 1) = (0 : Int) := by unfold oneq; rw [if_neg (by omega)]; rfl
  have U2 : uv (oneq b 2) = (0 : Int) := by unfold oneq; rw [if_neg (by omega)]; rfl
  have U3 : uv (oneq b 3) = (0 : Int) := by unfold oneq; rw [if_neg (by omega)]; rfl
  have UU := Lib.hid (And.intro U0 (And.intro U1 (And.intro U2 U3)))
  clear hb eb hh hl hm hn hk0 U0 U1 U2 U3
  cases big
  all_goals
    simp only [hexS, if_true, Bool.false_eq_true, if_false] at hx hy
    go_enter Try.func7, Try.ntmps7
    go_wp2_with fail
    refine S.out.mono ?_
    rintro e w1 ⟨rfl, hb1⟩
    have B := Lib.hid hb1.drew
    clear hb1 S
    go_wp2_with fail
    go_still_tail 8, (by kernel_rfl)
    change wpList _ _ _ _ _ w1.drew
    generalize w1.drew = wd at *
    clear hx hy q1 q2
    have B2 : Hid (Below w.heap.size w (wd.alloc (.cells #[.int .u8 92, .int .u8 120, .int .u8 (h : Nat), .int .u8 (l : Nat)] 5))) := B.out.alloc B.out.size _
    go_wp2_with fail
    refine (P1.out _ _ _ (by simp) (by first | exact z0 | (simp [z0]; rfl))).mono ?_
    rintro e w2 ⟨d1, rfl, v1, b1⟩
    have nb1 := below_new w2 (.cells d1.cells 29)
    have bb1 := b1.trans (nb1.mono b1.size)
    have T11 : Hid (TB (w2.alloc (.cells d1.cells 29)) w2.heap.size d1 ∧ TR (w2.alloc (.cells d1.cells 29)) (one b) d1) := ⟨TB.new w2 d1, v1.keeps nb1⟩
    have C1 : Hid (Below w.heap.size w (w2.alloc (.cells d1.cells 29))) := B2.out.trans (bb1.mono B2.out.size)
    clear P1 v1 b1 nb1 bb1 B2 B 
    unfold TD.val
    go_wp2_with fail
    refine (P2.out _ _ _ (by simp) (by first | exact z0 | (simp [z0]; rfl))).mono ?_
    rintro e w3 ⟨d2, rfl, v2, b2⟩
    have nb2 := below_new w3 (.cells d2.cells 29)
    have bb2 := b2.trans (nb2.mono b2.size)
    have T12 : Hid (TB (w3.alloc (.cells d2.cells 29)) w2.heap.size d1 ∧ TR (w3.alloc (.cells d2.cells 29)) (one b) d1) := ⟨T11.out.1.below bb2, T11.out.2.keeps bb2⟩
    have T22 : Hid (TB (w3.alloc (.cells d2.cells 29)) w3.heap.size d2 ∧ TR (w3.alloc (.cells d2.cells 29)) (one b) d2) := ⟨TB.new w3 d2, v2.keeps nb2⟩
    have C2 : Hid (Below w.heap.size w (w3.alloc (.cells d2.cells 29))) := C1.out.trans (bb2.mono C1.out.size)
    clear P2 v2 b2 nb2 bb2 C1 T11
    unfold TD.val
    go_wp2_with fail
    refine (P3.out _ _ _ (by simp) (by first | exact z0 | (simp [z0]; rfl))).mono ?_
    rintro e w4 ⟨d3, rfl, v3, b3⟩
    have nb3 := below_new w4 (.cells d3.cells 29)
    have bb3 := b3.trans (nb3.mono b3.size)
    have T13 : Hid (TB (w4.alloc (.cells d3.cells 29)) w2.heap.size d1 ∧ TR (w4.alloc (.cells d3.cells 29)) (one b) d1) := ⟨T12.out.1.below bb3, T12.out.2.keeps bb3⟩
    have T23 : Hid (TB (w4.alloc (.cells d3.cells 29)) w3.heap.size d2 ∧ TR (w4.alloc (.cells d3.cells 29)) (one b) d2) := ⟨T22.out.1.below bb3, T22.out.2.keeps bb3⟩
    have T33 : Hid (TB (w4.alloc (.cells d3.cells 29)) w4.heap.size d3 ∧ TR (w4.alloc (.cells d3.cells 29)) (one b) d3) := ⟨TB.new w4 d3, v3.keeps nb3⟩
    have C3 : Hid (Below w.heap.size w (w4.alloc (.cells d3.cells 29))) := C2.out.trans (bb3.mono C2.out.size)
    clear P3 v3 b3 nb3 bb3 C2 T12 T22
    unfold TD.val
    go_wp2_with fail
    refine (P4.out _ _ _ (by simp) (by first | exact z0 | (simp [z0]; rfl))).mono ?_
    rintro e w5 ⟨d4, rfl, v4, b4⟩
    have nb4 := below_new w5 (.cells d4.cells 29)
    have bb4 := b4.trans (nb4.mono b4.size)
    have T14 : Hid (TB (w5.alloc (.cells d4.cells 29)) w2.heap.size d1 ∧ TR (w5.alloc (.cells d4.cells 29)) (one b) d1) := ⟨T13.out.1.below bb4, T13.out.2.keeps bb4⟩
    have T24 : Hid (TB (w5.alloc (.cells d4.cells 29)) w3.heap.size d2 ∧ TR (w5.alloc (.cells d4.cells 29)) (one b) d2) := ⟨T23.out.1.below bb4, T23.out.2.keeps bb4⟩
    have T34 : Hid (TB (w5.alloc (.cells d4.cells 29)) w4.heap.size d3 ∧ TR (w5.alloc (.cells d4.cells 29)) (one b) d3) := ⟨T33.out.1.below bb4, T33.out.2.keeps bb4⟩
    have T44 : Hid (TB (w5.alloc (.cells d4.cells 29)) w5.heap.size d4 ∧ TR (w5.alloc (.cells d4.cells 29)) (setT (fun i => !rgF b b i)) d4) := ⟨TB.new w5 d4, v4.keeps nb4⟩
    have C4 : Hid (Below w.heap.size w (w5.alloc (.cells d4.cells 29))) := C3.out.trans (bb4.mono C3.out.size)
    clear P4 v4 b4 nb4 bb4 C3 T13 T23 T33
    unfold TD.val
    have nbw := below_new (w5.alloc (.cells d4.cells 29)) (.cells #[.int .u64 (IntKind.u64.wrap ((2 : Int) ^ (b % 64))), .int .u64 (0 : Int), .int .u64 (0 : Int), .int .u64 (0 : Int)] 26)
    have FF : Hid (FB w ((w5.alloc (.cells #[.int .i64 d4.op, .int .u64 (uv (d4.q 0)), .int .u64 (uv (d4.q 1)), .int .u64 (uv (d4.q 2)), .int .u64 (uv (d4.q 3)), .int .i64 d4.lo, .int .i64 d4.hi, .slice d4.A d4.n d4.c] 29)).alloc (.cells #[.int .u64 (IntKind.u64.wrap ((2 : Int) ^ (b % 64))), .int .u64 (0 : Int), .int .u64 (0 : Int), .int .u64 (0 : Int)] 26)) b w2.heap.size w3.heap.size w4.heap.size w5.heap.size (w5.heap.size + 1) d1 d2 d3 d4) := by
      refine ⟨T14.out.1.below nbw, T14.out.2.keeps nbw, T24.out.1.below nbw, T24.out.2.keeps nbw, T34.out.1.below nbw, T34.out.2.keeps nbw, T44.out.1.below nbw, T44.out.2.keeps nbw, ?_, C4.out.trans (nbw.mono C4.out.size)⟩
      have := CB.new (w5.alloc (.cells d4.cells 29)) (oneq b)
      rw [World.size_alloc] at this
      unfold cw at this
      rw [UU.out.1, UU.out.2.1, UU.out.2.2.1, UU.out.2.2.2] at this
      exact this
    clear nbw T14 T24 T34 T44 C4 ks kcv z0
    go_wp2_with fail
    generalize ((w5.alloc (.cells #[.int .i64 d4.op, .int .u64 (uv (d4.q 0)), .int .u64 (uv (d4.q 1)), .int .u64 (uv (d4.q 2)), .int .u64 (uv (d4.q 3)), .int .i64 d4.lo, .int .i64 d4.hi, .slice d4.A d4.n d4.c] 29)).alloc (.cells #[.int .u64 (IntKind.u64.wrap ((2 : Int) ^ (b % 64))), .int .u64 (0 : Int), .int .u64 (0 : Int), .int .u64 (0 : Int)] 26)) = wl at *
    have uvn := uv_not
    go_loopw [79] (fun v wr => ∃ i : Nat, i ≤ 4 ∧ v = .int .i64 (i : Nat) ∧ Hid (FB w wr b w2.heap.size w3.heap.size w4.heap.size w5.heap.size (w5.heap.size + 1) d1 d2 d3 d4)) (fun v _ => 4 - (intOf v).toNat)
    case atStart => exact ⟨0, Nat.zero_le _, rfl, FF⟩
    case round =>
      obtain ⟨i, hi, rfl, hW⟩ := hrel
      clear FF
      by_cases hil : i < 4
      · have qi : (i : Int) < 4 := by omega
        obtain ⟨c1, c2⟩ := hW.out.cells i hil
        go_wp2_with fail
        go_quiet (fail)
        have W2 := Lib.hid (hW.out.drewN nq)
        clear c1 c2 hW
        go_wp2_with fail
        go_roundw
        case rel => exact ⟨i + 1, by omega, by simp, W2⟩
        case measure => simp [intOf]; omega
      · have hin : i = 4 := by omega
        subst hin
        clear uvn q3
        obtain ⟨⟨x0, x1, x2, x3, x4, x5, x6, x7⟩, _⟩ := hW.out.t1.all
        have g0 := hW.out.cb.cell 0 (by omega); have g1 := hW.out.cb.cell 1 (by omega); have g2 := hW.out.cb.cell 2 (by omega); have g3 := hW.out.cb.cell 3 (by omega)
        have lt1 := hW.out.t1.lt
        have OC := Lib.hid (below_new wr (.cells #[.int .i64 2, .int .u64 (uv (oneq b 0)), .int .u64 (uv (oneq b 1)), .int .u64 (uv (oneq b 2)), .int .u64 (uv (oneq b 3)), .int .i64 0, .int .i64 0, .slice none 0 0] 29))
        have O1 : Hid (TB (wr.alloc (.cells #[.int .i64 2, .int .u64 (uv (oneq b 0)), .int .u64 (uv (oneq b 1)), .int .u64 (uv (oneq b 2)), .int .u64 (uv (oneq b 3)), .int .i64 0, .int .i64 0, .slice none 0 0] 29)) wr.heap.size ⟨2, oneq b, 0, 0, none, 0, 0⟩) := TB.new wr ⟨2, oneq b, 0, 0, none, 0, 0⟩
        have G1 := Lib.hid (hW.out.below OC.out)
        have D := Lib.hid fun (W : World) (d : TD) (h1 : TR W (one b) d) => same_any (one b) (one b) d ⟨2, oneq b, 0, 0, none, 0, 0⟩ W h1 (TV.leaf W (fun _ => True) 2 (rgF b b) 0 0 (oneq b) none 0 (oneq_is b HB.out)).tr
        rw [sameT_refl] at D
        unfold TD.val at D
        go_wp2_with fail
        refine (D.out _ _ G1.out.r1).mono ?_
        rintro e w7 ⟨rfl, b7⟩
        have G7 := Lib.hid (G1.out.below b7); have O7 := Lib.hid (O1.out.below b7)
        clear hW x0 x1 x2 x3 x4 x5 x6 x7 g0 g1 g2 g3 lt1 OC O1 G1 b7
        obtain ⟨⟨x0, x1, x2, x3, x4, x5, x6, x7⟩, _⟩ := G7.out.t2.all
        obtain ⟨⟨y0, y1, y2, y3, y4, y5, y6, y7⟩, _⟩ := O7.out.all
        go_wp2_with fail
        refine (D.out _ _ G7.out.r2).mono ?_
        rintro e w8 ⟨rfl, b8⟩
        have G8 := Lib.hid (G7.out.below b8); have O8 := Lib.hid (O7.out.below b8)
        clear x0 x1 x2 x3 x4 x5 x6 x7 y0 y1 y2 y3 y4 y5 y6 y7 G7 O7 b8
        obtain ⟨⟨x0, x1, x2, x3, x4, x5, x6, x7⟩, _⟩ := G8.out.t3.all
        obtain ⟨⟨y0, y1, y2, y3, y4, y5, y6, y7⟩, _⟩ := O8.out.all
        go_wp2_with fail
        refine (D.out _ _ G8.out.r3).mono ?_
        rintro e w9 ⟨rfl, b9⟩
        have BE := Lib.hid (G8.out.below b9).be
        clear x0 x1 x2 x3 x4 x5 x6 x7 y0 y1 y2 y3 y4 y5 y6 y7 G8 O8 b9
        go_wp2
        go_ret
        exact ⟨rfl, BE.out⟩
set_option maxRecDepth 100000 in
set_option maxHeartbeats 1000000 in
theorem byte_walk1 (m n : Nat) (big : Bool) (w : World) (hm : m < 16) (hn : n < 16) (hk0 : (16 * m + n) / 64 = 1) : Calls Try.prog 7 #[.int .u8 ((16 * m + n : Nat) : Int), .bool big] w (Tells w (.bool true)) := by
  have S := Lib.hid (speaks_any w)
  obtain ⟨h, hh, hh2, hx⟩ := idx_hex big m hm
  obtain ⟨l, hl, hl2, hy⟩ := idx_hex big n hn
  obtain ⟨b, hb⟩ : ∃ b, 16 * m + n = b := ⟨_, rfl⟩
  have q1 : IntKind.u8.wrap ((b : Int) / 16) = (m : Int) := by rw [IntKind.wrap_u8']; omega
  have q2 : (b : Int).tmod 16 = (n : Int) := by rw [Int.tmod_eq_emod_of_nonneg (by omega)]; omega
  have kcv : ∀ W : World, (convert 23 9 (.slice (some ⟨W.heap.size, 0, none⟩) 4 4)).run Try.prog (W.alloc (.cells #[.int .u8 92, .int .u8 120, .int .u8 (h : Nat), .int .u8 (l : Nat)] 5)) = .ok (.string (strN [92, 120, h, l])) (W.alloc (.cells #[.int .u8 92, .int .u8 120, .int .u8 (h : Nat), .int .u8 (l : Nat)] 5)) := fun W =>
    conv_bts 4 (lit_bts W [92, 120, h, l] (0, 0) (by simp; omega)) (by simp)
  have ks := conv_s
  have eb := btl_strN [92, 120, h, l] (by simp; omega)
  rw [hb]
  generalize strN [92, 120, h, l] = sN at *
  have z0 : sN.size = 4 := by rw [← len_btl, eb]; rfl
  have P1 := Lib.hid fun W k n hk hn => reads_s sN _ _ W k n hk hn eb (pb1 hh hl)
  have P2 := Lib.hid fun W k n hk hn => reads_s (⟨#[91]⟩ ++ sN ++ ⟨#[93]⟩) _ _ W k n hk hn (by rw [btl_app, btl_app, eb]; rfl) (pb2 hh hl)
  have P3 := Lib.hid fun W k n hk hn => reads_s (⟨#[91]⟩ ++ sN ++ ⟨#[45]⟩ ++ sN ++ ⟨#[93]⟩) _ _ W k n hk hn (by rw [btl_app, btl_app, btl_app, btl_app, eb]; rfl) (pb3 hh hl)
  have P4 := Lib.hid fun W k n hk hn => reads_s (⟨#[91, 94]⟩ ++ sN ++ ⟨#[93]⟩) _ _ W k n hk hn (by rw [btl_app, btl_app, eb]; rfl) (pb4 hh hl)
  rw [hb] at P1 P2 P3 P4
  have HB := Lib.hid (show b < 256 by omega)
  have q3 : IntKind.u8.wrap ((b : Int) / 64) = (1 : Int) := by rw [IntKind.wrap_u8']; omega
  rw [hb] at hk0
  have U0 : uv (oneq b 0) = (0 : Int) := by unfold oneq; rw [if_neg (by omega)]; rfl
  have U1 : uv (oneq b 1) = (IntKind.u64.wrap ((2 : Int) ^ (b % 64))) := by unfold oneq; rw [if_pos (by omega), uv_pow _ (by omega)]
  have U2 : uv (oneq b 2) = (0 : Int) := by unfold oneq; rw [if_neg (by omega)]; rfl
  have U3 : uv (oneq b 3) = (0 : Int) := by unfold oneq; rw [if_neg (by omega)]; rfl
  have UU := Lib.hid (And.intro U0 (And.intro U1 (And.intro U2 U3)))
  clear hb eb hh hl hm hn hk0 U0 U1 U2 U3
  cases big
  all_goals
    simp only [hexS, if_true, Bool.false_eq_true, if_false] at hx hy
    go_enter Try.func7, Try.ntmps7
    go_wp2_with fail
    refine S.out.mono ?_
    rintro e w1 ⟨rfl, hb1⟩
    have B := Lib.hid hb1.drew
    clear hb1 S
    go_wp2_with fail
    go_still_tail 8, (by kernel_rfl)
    change wpList _ _ _ _ _ w1.drew
    generalize w1.drew = wd at *
    clear hx hy q1 q2
    have B2 : Hid (Below w.heap.size w (wd.alloc (.cells #[.int .u8 92, .int .u8 120, .int .u8 (h : Nat), .int .u8 (l : Nat)] 5))) := B.out.alloc B.out.size _
    go_wp2_with fail
    refine (P1.out _ _ _ (by simp) (by first | exact z0 | (simp [z0]; rfl))).mono ?_
    rintro e w2 ⟨d1, rfl, v1, b1⟩
    have nb1 := below_new w2 (.cells d1.cells 29)
    have bb1 := b1.trans (nb1.mono b1.size)
    have T11 : Hid (TB (w2.alloc (.cells d1.cells 29)) w2.heap.size d1 ∧ TR (w2.alloc (.cells d1.cells 29)) (one b) d1) := ⟨TB.new w2 d1, v1.keeps nb1⟩
    have C1 : Hid (Below w.heap.size w (w2.alloc (.cells d1.cells 29))) := B2.out.trans (bb1.mono B2.out.size)
    clear P1 v1 b1 nb1 bb1 B2 B 
    unfold TD.val
    go_wp2_with fail
    refine (P2.out _ _ _ (by simp) (by first | exact z0 | (simp [z0]; rfl))).mono ?_
    rintro e w3 ⟨d2, rfl, v2, b2⟩
    have nb2 := below_new w3 (.cells d2.cells 29)
    have bb2 := b2.trans (nb2.mono b2.size)
    have T12 : Hid (TB (w3.alloc (.cells d2.cells 29)) w2.heap.size d1 ∧ TR (w3.alloc (.cells d2.cells 29)) (one b) d1) := ⟨T11.out.1.below bb2, T11.out.2.keeps bb2⟩
    have T22 : Hid (TB (w3.alloc (.cells d2.cells 29)) w3.heap.size d2 ∧ TR (w3.alloc (.cells d2.cells 29)) (one b) d2) := ⟨TB.new w3 d2, v2.keeps nb2⟩
    have C2 : Hid (Below w.heap.size w (w3.alloc (.cells d2.cells 29))) := C1.out.trans (bb2.mono C1.out.size)
    clear P2 v2 b2 nb2 bb2 C1 T11
    unfold TD.val
    go_wp2_with fail
    refine (P3.out _ _ _ (by simp) (by first | exact z0 | (simp [z0]; rfl))).mono ?_
    rintro e w4 ⟨d3, rfl, v3, b3⟩
    have nb3 := below_new w4 (.cells d3.cells 29)
    have bb3 := b3.trans (nb3.mono b3.size)
    have T13 : Hid (TB (w4.alloc (.cells d3.cells 29)) w2.heap.size d1 ∧ TR (w4.alloc (.cells d3.cells 29)) (one b) d1) := ⟨T12.out.1.below bb3, T12.out.2.keeps bb3⟩
    have T23 : Hid (TB (w4.alloc (.cells d3.cells 29)) w3.heap.size d2 ∧ TR (w4.alloc (.cells d3.cells 29)) (one b) d2) := ⟨T22.out.1.below bb3, T22.out.2.keeps bb3⟩
    have T33 : Hid (TB (w4.alloc (.cells d3.cells 29)) w4.heap.size d3 ∧ TR (w4.alloc (.cells d3.cells 29)) (one b) d3) := ⟨TB.new w4 d3, v3.keeps nb3⟩
    have C3 : Hid (Below w.heap.size w (w4.alloc (.cells d3.cells 29))) := C2.out.trans (bb3.mono C2.out.size)
    clear P3 v3 b3 nb3 bb3 C2 T12 T22
    unfold TD.val
    go_wp2_with fail
    refine (P4.out _ _ _ (by simp) (by first | exact z0 | (simp [z0]; rfl))).mono ?_
    rintro e w5 ⟨d4, rfl, v4, b4⟩
    have nb4 := below_new w5 (.cells d4.cells 29)
    have bb4 := b4.trans (nb4.mono b4.size)
    have T14 : Hid (TB (w5.alloc (.cells d4.cells 29)) w2.heap.size d1 ∧ TR (w5.alloc (.cells d4.cells 29)) (one b) d1) := ⟨T13.out.1.below bb4, T13.out.2.keeps bb4⟩
    have T24 : Hid (TB (w5.alloc (.cells d4.cells 29)) w3.heap.size d2 ∧ TR (w5.alloc (.cells d4.cells 29)) (one b) d2) := ⟨T23.out.1.below bb4, T23.out.2.keeps bb4⟩
    have T34 : Hid (TB (w5.alloc (.cells d4.cells 29)) w4.heap.size d3 ∧ TR (w5.alloc (.cells d4.cells 29)) (one b) d3) := ⟨T33.out.1.below bb4, T33.out.2.keeps bb4⟩
    have T44 : Hid (TB (w5.alloc (.cells d4.cells 29)) w5.heap.size d4 ∧ TR (w5.alloc (.cells d4.cells 29)) (setT (fun i => !rgF b b i)) d4) := ⟨TB.new w5 d4, v4.keeps nb4⟩
    have C4 : Hid (Below w.heap.size w (w5.alloc (.cells d4.cells 29))) := C3.out.trans (bb4.mono C3.out.size)
    clear P4 v4 b4 nb4 bb4 C3 T13 T23 T33
    unfold TD.val
    have nbw := below_new (w5.alloc (.cells d4.cells 29)) (.cells #[.int .u64 (0 : Int), .int .u64 (IntKind.u64.wrap ((2 : Int) ^ (b % 64))), .int .u64 (0 : Int), .int .u64 (0 : Int)] 26)
    have FF : Hid (FB w ((w5.alloc (.cells #[.int .i64 d4.op, .int .u64 (uv (d4.q 0)), .int .u64 (uv (d4.q 1)), .int .u64 (uv (d4.q 2)), .int .u64 (uv (d4.q 3)), .int .i64 d4.lo, .int .i64 d4.hi, .slice d4.A d4.n d4.c] 29)).alloc (.cells #[.int .u64 (0 : Int), .int .u64 (IntKind.u64.wrap ((2 : Int) ^ (b % 64))), .int .u64 (0 : Int), .int .u64 (0 : Int)] 26)) b w2.heap.size w3.heap.size w4.heap.size w5.heap.size (w5.heap.size + 1) d1 d2 d3 d4) := by
      refine ⟨T14.out.1.below nbw, T14.out.2.keeps nbw, T24.out.1.below nbw, T24.out.2.keeps nbw, T34.out.1.below nbw, T34.out.2.keeps nbw, T44.out.1.below nbw, T44.out.2.keeps nbw, ?_, C4.out.trans (nbw.mono C4.out.size)⟩
      have := CB.new (w5.alloc (.cells d4.cells 29)) (oneq b)
      rw [World.size_alloc] at this
      unfold cw at this
      rw [UU.out.1, UU.out.2.1, UU.out.2.2.1, UU.out.2.2.2] at this
      exact this
    clear nbw T14 T24 T34 T44 C4 ks kcv z0
    go_wp2_with fail
    generalize ((w5.alloc (.cells #[.int .i64 d4.op, .int .u64 (uv (d4.q 0)), .int .u64 (uv (d4.q 1)), .int .u64 (uv (d4.q 2)), .int .u64 (uv (d4.q 3)), .int .i64 d4.lo, .int .i64 d4.hi, .slice d4.A d4.n d4.c] 29)).alloc (.cells #[.int .u64 (0 : Int), .int .u64 (IntKind.u64.wrap ((2 : Int) ^ (b % 64))), .int .u64 (0 : Int), .int .u64 (0 : Int)] 26)) = wl at *
    have uvn := uv_not
    go_loopw [79] (fun v wr => ∃ i : Nat, i ≤ 4 ∧ v = .int .i64 (i : Nat) ∧ Hid (FB w wr b w2.heap.size w3.heap.size w4.heap.size w5.heap.size (w5.heap.size + 1) d1 d2 d3 d4)) (fun v _ => 4 - (intOf v).toNat)
    case atStart => exact ⟨0, Nat.zero_le _, rfl, FF⟩
    case round =>
      obtain ⟨i, hi, rfl, hW⟩ := hrel
      clear FF
      by_cases hil : i < 4
      · have qi : (i : Int) < 4 := by omega
        obtain ⟨c1, c2⟩ := hW.out.cells i hil
        go_wp2_with fail
        go_quiet (fail)
        have W2 := Lib.hid (hW.out.drewN nq)
        clear c1 c2 hW
        go_wp2_with fail
        go_roundw
        case rel => exact ⟨i + 1, by omega, by simp, W2⟩
        case measure => simp [intOf]; omega
      · have hin : i = 4 := by omega
        subst hin
        clear uvn q3
        obtain ⟨⟨x0, x1, x2, x3, x4, x5, x6, x7⟩, _⟩ := hW.out.t1.all
        have g0 := hW.out.cb.cell 0 (by omega); have g1 := hW.out.cb.cell 1 (by omega); have g2 := hW.out.cb.cell 2 (by omega); have g3 := hW.out.cb.cell 3 (by omega)
        have lt1 := hW.out.t1.lt
        have OC := Lib.hid (below_new wr (.cells #[.int .i64 2, .int .u64 (uv (oneq b 0)), .int .u64 (uv (oneq b 1)), .int .u64 (uv (oneq b 2)), .int .u64 (uv (oneq b 3)), .int .i64 0, .int .i64 0, .slice none 0 0] 29))
        have O1 : Hid (TB (wr.alloc (.cells #[.int .i64 2, .int .u64 (uv (oneq b 0)), .int .u64 (uv (oneq b 1)), .int .u64 (uv (oneq b 2)), .int .u64 (uv (oneq b 3)), .int .i64 0, .int .i64 0, .slice none 0 0] 29)) wr.heap.size ⟨2, oneq b, 0, 0, none, 0, 0⟩) := TB.new wr ⟨2, oneq b, 0, 0, none, 0, 0⟩
        have G1 := Lib.hid (hW.out.below OC.out)
        have D := Lib.hid fun (W : World) (d : TD) (h1 : TR W (one b) d) => same_any (one b) (one b) d ⟨2, oneq b, 0, 0, none, 0, 0⟩ W h1 (TV.leaf W (fun _ => True) 2 (rgF b b) 0 0 (oneq b) none 0 (oneq_is b HB.out)).tr
        rw [sameT_refl] at D
        unfold TD.val at D
        go_wp2_with fail
        refine (D.out _ _ G1.out.r1).mono ?_
        rintro e w7 ⟨rfl, b7⟩
        have G7 := Lib.hid (G1.out.below b7); have O7 := Lib.hid (O1.out.below b7)
        clear hW x0 x1 x2 x3 x4 x5 x6 x7 g0 g1 g2 g3 lt1 OC O1 G1 b7
        obtain ⟨⟨x0, x1, x2, x3, x4, x5, x6, x7⟩, _⟩ := G7.out.t2.all
        obtain ⟨⟨y0, y1, y2, y3, y4, y5, y6, y7⟩, _⟩ := O7.out.all
        go_wp2_with fail
        refine (D.out _ _ G7.out.r2).mono ?_
        rintro e w8 ⟨rfl, b8⟩
        have G8 := Lib.hid (G7.out.below b8); have O8 := Lib.hid (O7.out.below b8)
        clear x0 x1 x2 x3 x4 x5 x6 x7 y0 y1 y2 y3 y4 y5 y6 y7 G7 O7 b8
        obtain ⟨⟨x0, x1, x2, x3, x4, x5, x6, x7⟩, _⟩ := G8.out.t3.all
        obtain ⟨⟨y0, y1, y2, y3, y4, y5, y6, y7⟩, _⟩ := O8.out.all
        go_wp2_with fail
        refine (D.out _ _ G8.out.r3).mono ?_
        rintro e w9 ⟨rfl, b9⟩
        have BE := Lib.hid (G8.out.below b9).be
        clear x0 x1 x2 x3 x4 x5 x6 x7 y0 y1 y2 y3 y4 y5 y6 y7 G8 O8 b9
        go_wp2
        go_ret
        exact ⟨rfl, BE.out⟩
set_option maxRecDepth 100000 in
set_option maxHeartbeats 1000000 in
theorem byte_walk2 (m n : Nat) (big : Bool) (w : World) (hm : m < 16) (hn : n < 16) (hk0 : (16 * m + n) / 64 = 2) : Calls Try.prog 7 #[.int .u8 ((16 * m + n : Nat) : Int), .bool big] w (Tells w (.bool true)) := by
  have S := Lib.hid (speaks_any w)
  obtain ⟨h, hh, hh2, hx⟩ := idx_hex big m hm
  obtain ⟨l, hl, hl2, hy⟩ := idx_hex big n hn
  obtain ⟨b, hb⟩ : ∃ b, 16 * m + n = b := ⟨_, rfl⟩
  have q1 : IntKind.u8.wrap ((b : Int) / 16) = (m : Int) := by rw [IntKind.wrap_u8']; omega
  have q2 : (b : Int).tmod 16 = (n : Int) := by rw [Int.tmod_eq_emod_of_nonneg (by omega)]; omega
  have kcv : ∀ W : World, (convert 23 9 (.slice (some ⟨W.heap.size, 0, none⟩) 4 4)).run Try.prog (W.alloc (.cells #[.int .u8 92, .int .u8 120, .int .u8 (h : Nat), .int .u8 (l : Nat)] 5)) = .ok (.string (strN [92, 120, h, l])) (W.alloc (.cells #[.int .u8 92, .int .u8 120, .int .u8 (h : Nat), .int .u8 (l : Nat)] 5)) := fun W =>
    conv_bts 4 (lit_bts W [92, 120, h, l] (0, 0) (by simp; omega)) (by simp)
  have ks := conv_s
  have eb := btl_strN [92, 120, h, l] (by simp; omega)
  rw [hb]
  generalize strN [92, 120, h, l] = sN at *
  have z0 : sN.size = 4 := by rw [← len_btl, eb]; rfl
  have P1 := Lib.hid fun W k n hk hn => reads_s sN _ _ W k n hk hn eb (pb1 hh hl)
  have P2 := Lib.hid fun W k n hk hn => reads_s (⟨#[91]⟩ ++ sN ++ ⟨#[93]⟩) _ _ W k n hk hn (by rw [btl_app, btl_app, eb]; rfl) (pb2 hh hl)
  have P3 := Lib.hid fun W k n hk hn => reads_s (⟨#[91]⟩ ++ sN ++ ⟨#[45]⟩ ++ sN ++ ⟨#[93]⟩) _ _ W k n hk hn (by rw [btl_app, btl_app, btl_app, btl_app, eb]; rfl) (pb3 hh hl)
  have P4 := Lib.hid fun W k n hk hn => reads_s (⟨#[91, 94]⟩ ++ sN ++ ⟨#[93]⟩) _ _ W k n hk hn (by rw [btl_app, btl_app, eb]; rfl) (pb4 hh hl)
  rw [hb] at P1 P2 P3 P4
  have HB := Lib.hid (show b < 256 by omega)
  have q3 : IntKind.u8.wrap ((b : Int) / 64) = (2 : Int) := by rw [IntKind.wrap_u8']; omega
  rw [hb] at hk0
  have U0 : uv (oneq b 0) = (0 : Int) := by unfold oneq; rw [if_neg (by omega)]; rfl
  have U1 : uv (oneq b 1) = (0 : Int) := by unfold oneq; rw [if_neg (by omega)]; rfl
  have U2 : uv (oneq b 2) = (IntKind.u64.wrap ((2 : Int) ^ (b % 64))) := by unfold oneq; rw [if_pos (by omega), uv_pow _ (by omega)]
  have U3 : uv (oneq b 3) = (0 : Int) := by unfold oneq; rw [if_neg (by omega)]; rfl
  have UU := Lib.hid (And.intro U0 (And.intro U1 (And.intro U2 U3)))
  clear hb eb hh hl hm hn hk0 U0 U1 U2 U3
  cases big
  all_goals
    simp only [hexS, if_true, Bool.false_eq_true, if_false] at hx hy
    go_enter Try.func7, Try.ntmps7
    go_wp2_with fail
    refine S.out.mono ?_
    rintro e w1 ⟨rfl, hb1⟩
    have B := Lib.hid hb1.drew
    clear hb1 S
    go_wp2_with fail
    go_still_tail 8, (by kernel_rfl)
    change wpList _ _ _ _ _ w1.drew
    generalize w1.drew = wd at *
    clear hx hy q1 q2
    have B2 : Hid (Below w.heap.size w (wd.alloc (.cells #[.int .u8 92, .int .u8 120, .int .u8 (h : Nat), .int .u8 (l : Nat)] 5))) := B.out.alloc B.out.size _
    go_wp2_with fail
    refine (P1.out _ _ _ (by simp) (by first | exact z0 | (simp [z0]; rfl))).mono ?_
    rintro e w2 ⟨d1, rfl, v1, b1⟩
    have nb1 := below_new w2 (.cells d1.cells 29)
    have bb1 := b1.trans (nb1.mono b1.size)
    have T11 : Hid (TB (w2.alloc (.cells d1.cells 29)) w2.heap.size d1 ∧ TR (w2.alloc (.cells d1.cells 29)) (one b) d1) := ⟨TB.new w2 d1, v1.keeps nb1⟩
    have C1 : Hid (Below w.heap.size w (w2.alloc (.cells d1.cells 29))) := B2.out.trans (bb1.mono B2.out.size)
    clear P1 v1 b1 nb1 bb1 B2 B 
    unfold TD.val
    go_wp2_with fail
    refine (P2.out _ _ _ (by simp) (by first | exact z0 | (simp [z0]; rfl))).mono ?_
    rintro e w3 ⟨d2, rfl, v2, b2⟩
    have nb2 := below_new w3 (.cells d2.cells 29)
    have bb2 := b2.trans (nb2.mono b2.size)
    have T12 : Hid (TB (w3.alloc (.cells d2.cells 29)) w2.heap.size d1 ∧ TR (w3.alloc (.cells d2.cells 29)) (one b) d1) := ⟨T11.out.1.below bb2, T11.out.2.keeps bb2⟩
    have T22 : Hid (TB (w3.alloc (.cells d2.cells 29)) w3.heap.size d2 ∧ TR (w3.alloc (.cells d2.cells 29)) (one b) d2) := ⟨TB.new w3 d2, v2.keeps nb2⟩
    have C2 : Hid (Below w.heap.size w (w3.alloc (.cells d2.cells 29))) := C1.out.trans (bb2.mono C1.out.size)
    clear P2 v2 b2 nb2 bb2 C1 T11
    unfold TD.val
    go_wp2_with fail
    refine (P3.out _ _ _ (by simp) (by first | exact z0 | (simp [z0]; rfl))).mono ?_
    rintro e w4 ⟨d3, rfl, v3, b3⟩
    have nb3 := below_new w4 (.cells d3.cells 29)
    have bb3 := b3.trans (nb3.mono b3.size)
    have T13 : Hid (TB (w4.alloc (.cells d3.cells 29)) w2.heap.size d1 ∧ TR (w4.alloc (.cells d3.cells 29)) (one b) d1) := ⟨T12.out.1.below bb3, T12.out.2.keeps bb3⟩
    have T23 : Hid (TB (w4.alloc (.cells d3.cells 29)) w3.heap.size d2 ∧ TR (w4.alloc (.cells d3.cells 29)) (one b) d2) := ⟨T22.out.1.below bb3, T22.out.2.keeps bb3⟩
    have T33 : Hid (TB (w4.alloc (.cells d3.cells 29)) w4.heap.size d3 ∧ TR (w4.alloc (.cells d3.cells 29)) (one b) d3) := ⟨TB.new w4 d3, v3.keeps nb3⟩
    have C3 : Hid (Below w.heap.size w (w4.alloc (.cells d3.cells 29))) := C2.out.trans (bb3.mono C2.out.size)
    clear P3 v3 b3 nb3 bb3 C2 T12 T22
    unfold TD.val
    go_wp2_with fail
    refine (P4.out _ _ _ (by simp) (by first | exact z0 | (simp [z0]; rfl))).mono ?_
    rintro e w5 ⟨d4, rfl, v4, b4⟩
    have nb4 := below_new w5 (.cells d4.cells 29)
    have bb4 := b4.trans (nb4.mono b4.size)
    have T14 : Hid (TB (w5.alloc (.cells d4.cells 29)) w2.heap.size d1 ∧ TR (w5.alloc (.cells d4.cells 29)) (one b) d1) := ⟨T13.out.1.below bb4, T13.out.2.keeps bb4⟩
    have T24 : Hid (TB (w5.alloc (.cells d4.cells 29)) w3.heap.size d2 ∧ TR (w5.alloc (.cells d4.cells 29)) (one b) d2) := ⟨T23.out.1.below bb4, T23.out.2.keeps bb4⟩
    have T34 : Hid (TB (w5.alloc (.cells d4.cells 29)) w4.heap.size d3 ∧ TR (w5.alloc (.cells d4.cells 29)) (one b) d3) := ⟨T33.out.1.below bb4, T33.out.2.keeps bb4⟩
    have T44 : Hid (TB (w5.alloc (.cells d4.cells 29)) w5.heap.size d4 ∧ TR (w5.alloc (.cells d4.cells 29)) (setT (fun i => !rgF b b i)) d4) := ⟨TB.new w5 d4, v4.keeps nb4⟩
    have C4 : Hid (Below w.heap.size w (w5.alloc (.cells d4.cells 29))) := C3.out.trans (bb4.mono C3.out.size)
    clear P4 v4 b4 nb4 bb4 C3 T13 T23 T33
    unfold TD.val
    have nbw := below_new (w5.alloc (.cells d4.cells 29)) (.cells #[.int .u64 (0 : Int), .int .u64 (0 : Int), .int .u64 (IntKind.u64.wrap ((2 : Int) ^ (b % 64))), .int .u64 (0 : Int)] 26)
    have FF : Hid (FB w ((w5.alloc (.cells #[.int .i64 d4.op, .int .u64 (uv (d4.q 0)), .int .u64 (uv (d4.q 1)), .int .u64 (uv (d4.q 2)), .int .u64 (uv (d4.q 3)), .int .i64 d4.lo, .int .i64 d4.hi, .slice d4.A d4.n d4.c] 29)).alloc (.cells #[.int .u64 (0 : Int), .int .u64 (0 : Int), .int .u64 (IntKind.u64.wrap ((2 : Int) ^ (b % 64))), .int .u64 (0 : Int)] 26)) b w2.heap.size w3.heap.size w4.heap.size w5.heap.size (w5.heap.size + 1) d1 d2 d3 d4) := by
      refine ⟨T14.out.1.below nbw, T14.out.2.keeps nbw, T24.out.1.below nbw, T24.out.2.keeps nbw, T34.out.1.below nbw, T34.out.2.keeps nbw, T44.out.1.below nbw, T44.out.2.keeps nbw, ?_, C4.out.trans (nbw.mono C4.out.size)⟩
      have := CB.new (w5.alloc (.cells d4.cells 29)) (oneq b)
      rw [World.size_alloc] at this
      unfold cw at this
      rw [UU.out.1, UU.out.2.1, UU.out.2.2.1, UU.out.2.2.2] at this
      exact this
    clear nbw T14 T24 T34 T44 C4 ks kcv z0
    go_wp2_with fail
    generalize ((w5.alloc (.cells #[.int .i64 d4.op, .int .u64 (uv (d4.q 0)), .int .u64 (uv (d4.q 1)), .int .u64 (uv (d4.q 2)), .int .u64 (uv (d4.q 3)), .int .i64 d4.lo, .int .i64 d4.hi, .slice d4.A d4.n d4.c] 29)).alloc (.cells #[.int .u64 (0 : Int), .int .u64 (0 : Int), .int .u64 (IntKind.u64.wrap ((2 : Int) ^ (b % 64))), .int .u64 (0 : Int)] 26)) = wl at *
    have uvn := uv_not
    go_loopw [79] (fun v wr => ∃ i : Nat, i ≤ 4 ∧ v = .int .i64 (i : Nat) ∧ Hid (FB w wr b w2.heap.size w3.heap.size w4.heap.size w5.heap.size (w5.heap.size + 1) d1 d2 d3 d4)) (fun v _ => 4 - (intOf v).toNat)
    case atStart => exact ⟨0, Nat.zero_le _, rfl, FF⟩
    case round =>
      obtain ⟨i, hi, rfl, hW⟩ := hrel
      clear FF
      by_cases hil : i < 4
      · have qi : (i : Int) < 4 := by omega
        obtain ⟨c1, c2⟩ := hW.out.cells i hil
        go_wp2_with fail
        go_quiet (fail)
        have W2 := Lib.hid (hW.out.drewN nq)
        clear c1 c2 hW
        go_wp2_with fail
        go_roundw
        case rel => exact ⟨i + 1, by omega, by simp, W2⟩
        case measure => simp [intOf]; omega
      · have hin : i = 4 := by omega
        subst hin
        clear uvn q3
        obtain ⟨⟨x0, x1, x2, x3, x4, x5, x6, x7⟩, _⟩ := hW.out.t1.all
        have g0 := hW.out.cb.cell 0 (by omega); have g1 := hW.out.cb.cell 1 (by omega); have g2 := hW.out.cb.cell 2 (by omega); have g3 := hW.out.cb.cell 3 (by omega)
        have lt1 := hW.out.t1.lt
        have OC := Lib.hid (below_new wr (.cells #[.int .i64 2, .int .u64 (uv (oneq b 0)), .int .u64 (uv (oneq b 1)), .int .u64 (uv (oneq b 2)), .int .u64 (uv (oneq b 3)), .int .i64 0, .int .i64 0, .slice none 0 0] 29))
        have O1 : Hid (TB (wr.alloc (.cells #[.int .i64 2, .int .u64 (uv (oneq b 0)), .int .u64 (uv (oneq b 1)), .int .u64 (uv (oneq b 2)), .int .u64 (uv (oneq b 3)), .int .i64 0, .int .i64 0, .slice none 0 0] 29)) wr.heap.size ⟨2, oneq b, 0, 0, none, 0, 0⟩) := TB.new wr ⟨2, oneq b, 0, 0, none, 0, 0⟩
        have G1 := Lib.hid (hW.out.below OC.out)
        have D := Lib.hid fun (W : World) (d : TD) (h1 : TR W (one b) d) => same_any (one b) (one b) d ⟨2, oneq b, 0, 0, none, 0, 0⟩ W h1 (TV.leaf W (fun _ => True) 2 (rgF b b) 0 0 (oneq b) none 0 (oneq_is b HB.out)).tr
        rw [sameT_refl] at D
        unfold TD.val at D
        go_wp2_with fail
        refine (D.out _ _ G1.out.r1).mono ?_
        rintro e w7 ⟨rfl, b7⟩
        have G7 := Lib.hid (G1.out.below b7); have O7 := Lib.hid (O1.out.below b7)
        clear hW x0 x1 x2 x3 x4 x5 x6 x7 g0 g1 g2 g3 lt1 OC O1 G1 b7
        obtain ⟨⟨x0, x1, x2, x3, x4, x5, x6, x7⟩, _⟩ := G7.out.t2.all
        obtain ⟨⟨y0, y1, y2, y3, y4, y5, y6, y7⟩, _⟩ := O7.out.all
        go_wp2_with fail
        refine (D.out _ _ G7.out.r2).mono ?_
        rintro e w8 ⟨rfl, b8⟩
        have G8 := Lib.hid (G7.out.below b8); have O8 := Lib.hid (O7.out.below b8)
        clear x0 x1 x2 x3 x4 x5 x6 x7 y0 y1 y2 y3 y4 y5 y6 y7 G7 O7 b8
        obtain ⟨⟨x0, x1, x2, x3, x4, x5, x6, x7⟩, _⟩ := G8.out.t3.all
        obtain ⟨⟨y0, y1, y2, y3, y4, y5, y6, y7⟩, _⟩ := O8.out.all
        go_wp2_with fail
        refine (D.out _ _ G8.out.r3).mono ?_
        rintro e w9 ⟨rfl, b9⟩
        have BE := Lib.hid (G8.out.below b9).be
        clear x0 x1 x2 x3 x4 x5 x6 x7 y0 y1 y2 y3 y4 y5 y6 y7 G8 O8 b9
        go_wp2
        go_ret
        exact ⟨rfl, BE.out⟩
set_option maxRecDepth 100000 in
set_option maxHeartbeats 1000000 in
theorem byte_walk3 (m n : Nat) (big : Bool) (w : World) (hm : m < 16) (hn : n < 16) (hk0 : (16 * m + n) / 64 = 3) : Calls Try.prog 7 #[.int .u8 ((16 * m + n : Nat) : Int), .bool big] w (Tells w (.bool true)) := by
  have S := Lib.hid (speaks_any w)
  obtain ⟨h, hh, hh2, hx⟩ := idx_hex big m hm
  obtain ⟨l, hl, hl2, hy⟩ := idx_hex big n hn
  obtain ⟨b, hb⟩ : ∃ b, 16 * m + n = b := ⟨_, rfl⟩
  have q1 : IntKind.u8.wrap ((b : Int) / 16) = (m : Int) := by rw [IntKind.wrap_u8']; omega
  have q2 : (b : Int).tmod 16 = (n : Int) := by rw [Int.tmod_eq_emod_of_nonneg (by omega)]; omega
  have kcv : ∀ W : World, (convert 23 9 (.slice (some ⟨W.heap.size, 0, none⟩) 4 4)).run Try.prog (W.alloc (.cells #[.int .u8 92, .int .u8 120, .int .u8 (h : Nat), .int .u8 (l : Nat)] 5)) = .ok (.string (strN [92, 120, h, l])) (W.alloc (.cells #[.int .u8 92, .int .u8 120, .int .u8 (h : Nat), .int .u8 (l : Nat)] 5)) := fun W =>
    conv_bts 4 (lit_bts W [92, 120, h, l] (0, 0) (by simp; omega)) (by simp)
  have ks := conv_s
  have eb := btl_strN [92, 120, h, l] (by simp; omega)
  rw [hb]
  generalize strN [92, 120, h, l] = sN at *
  have z0 : sN.size = 4 := by rw [← len_btl, eb]; rfl
  have P1 := Lib.hid fun W k n hk hn => reads_s sN _ _ W k n hk hn eb (pb1 hh hl)
  have P2 := Lib.hid fun W k n hk hn => reads_s (⟨#[91]⟩ ++ sN ++ ⟨#[93]⟩) _ _ W k n hk hn (by rw [btl_app, btl_app, eb]; rfl) (pb2 hh hl)
  have P3 := Lib.hid fun W k n hk hn => reads_s (⟨#[91]⟩ ++ sN ++ ⟨#[45]⟩ ++ sN ++ ⟨#[93]⟩) _ _ W k n hk hn (by rw [btl_app, btl_app, btl_app, btl_app, eb]; rfl) (pb3 hh hl)
  have P4 := Lib.hid fun W k n hk hn => reads_s (⟨#[91, 94]⟩ ++ sN ++ ⟨#[93]⟩) _ _ W k n hk hn (by rw [btl_app, btl_app, eb]; rfl) (pb4 hh hl)
  rw [hb] at P1 P2 P3 P4
  have HB := Lib.hid (show b < 256 by omega)
  have q3 : IntKind.u8.wrap ((b : Int) / 64) = (3 : Int) := by rw [IntKind.wrap_u8']; omega
  rw [hb] at hk0
  have U0 : uv (oneq b 0) = (0 : Int) := by unfold oneq; rw [if_neg (by omega)]; rfl
  have U1 : uv (oneq b 1) = (0 : Int) := by unfold oneq; rw [if_neg (by omega)]; rfl
  have U2 : uv (oneq b 2) = (0 : Int) := by unfold oneq; rw [if_neg (by omega)]; rfl
  have U3 : uv (oneq b 3) = (IntKind.u64.wrap ((2 : Int) ^ (b % 64))) := by unfold oneq; rw [if_pos (by omega), uv_pow _ (by omega)]
  have UU := Lib.hid (And.intro U0 (And.intro U1 (And.intro U2 U3)))
  clear hb eb hh hl hm hn hk0 U0 U1 U2 U3
  cases big
  all_goals
    simp only [hexS, if_true, Bool.false_eq_true, if_false] at hx hy
    go_enter Try.func7, Try.ntmps7
    go_wp2_with fail
    refine S.out.mono ?_
    rintro e w1 ⟨rfl, hb1⟩
    have B := Lib.hid hb1.drew
    clear hb1 S
    go_wp2_with fail
    go_still_tail 8, (by kernel_rfl)
    change wpList _ _ _ _ _ w1.drew
    generalize w1.drew = wd at *
    clear hx hy q1 q2
    have B2 : Hid (Below w.heap.size w (wd.alloc (.cells #[.int .u8 92, .int .u8 120, .int .u8 (h : Nat), .int .u8 (l : Nat)] 5))) := B.out.alloc B.out.size _
    go_wp2_with fail
    refine (P1.out _ _ _ (by simp) (by first | exact z0 | (simp [z0]; rfl))).mono ?_
    rintro e w2 ⟨d1, rfl, v1, b1⟩
    have nb1 := below_new w2 (.cells d1.cells 29)
    have bb1 := b1.trans (nb1.mono b1.size)
    have T11 : Hid (TB (w2.alloc (.cells d1.cells 29)) w2.heap.size d1 ∧ TR (w2.alloc (.cells d1.cells 29)) (one b) d1) := ⟨TB.new w2 d1, v1.keeps nb1⟩
    have C1 : Hid (Below w.heap.size w (w2.alloc (.cells d1.cells 29))) := B2.out.trans (bb1.mono B2.out.size)
    clear P1 v1 b1 nb1 bb1 B2 B 
    unfold TD.val
    go_wp2_with fail
    refine (P2.out _ _ _ (by simp) (by first | exact z0 | (simp [z0]; rfl))).mono ?_
    rintro e w3 ⟨d2, rfl, v2, b2⟩
    have nb2 := below_new w3 (.cells d2.cells 29)
    have bb2 := b2.trans (nb2.mono b2.size)
    have T12 : Hid (TB (w3.alloc (.cells d2.cells 29)) w2.heap.size d1 ∧ TR (w3.alloc (.cells d2.cells 29)) (one b) d1) := ⟨T11.out.1.below bb2, T11.out.2.keeps bb2⟩
    have T22 : Hid (TB (w3.alloc (.cells d2.cells 29)) w3.heap.size d2 ∧ TR (w3.alloc (.cells d2.cells 29)) (one b) d2) := ⟨TB.new w3 d2, v2.keeps nb2⟩
    have C2 : Hid (Below w.heap.size w (w3.alloc (.cells d2.cells 29))) := C1.out.trans (bb2.mono C1.out.size)
    clear P2 v2 b2 nb2 bb2 C1 T11
    unfold TD.val
    go_wp2_with fail
    refine (P3.out _ _ _ (by simp) (by first | exact z0 | (simp [z0]; rfl))).mono ?_
    rintro e w4 ⟨d3, rfl, v3, b3⟩
    have nb3 := below_new w4 (.cells d3.cells 29)
    have bb3 := b3.trans (nb3.mono b3.size)
    have T13 : Hid (TB (w4.alloc (.cells d3.cells 29)) w2.heap.size d1 ∧ TR (w4.alloc (.cells d3.cells 29)) (one b) d1) := ⟨T12.out.1.below bb3, T12.out.2.keeps bb3⟩
    have T23 : Hid (TB (w4.alloc (.cells d3.cells 29)) w3.heap.size d2 ∧ TR (w4.alloc (.cells d3.cells 29)) (one b) d2) := ⟨T22.out.1.below bb3, T22.out.2.keeps bb3⟩
    have T33 : Hid (TB (w4.alloc (.cells d3.cells 29)) w4.heap.size d3 ∧ TR (w4.alloc (.cells d3.cells 29)) (one b) d3) := ⟨TB.new w4 d3, v3.keeps nb3⟩
    have C3 : Hid (Below w.heap.size w (w4.alloc (.cells d3.cells 29))) := C2.out.trans (bb3.mono C2.out.size)
    clear P3 v3 b3 nb3 bb3 C2 T12 T22
    unfold TD.val
    go_wp2_with fail
    refine (P4.out _ _ _ (by simp) (by first | exact z0 | (simp [z0]; rfl))).mono ?_
    rintro e w5 ⟨d4, rfl, v4, b4⟩
    have nb4 := below_new w5 (.cells d4.cells 29)
    have bb4 := b4.trans (nb4.mono b4.size)
    have T14 : Hid (TB (w5.alloc (.cells d4.cells 29)) w2.heap.size d1 ∧ TR (w5.alloc (.cells d4.cells 29)) (one b) d1) := ⟨T13.out.1.below bb4, T13.out.2.keeps bb4⟩
    have T24 : Hid (TB (w5.alloc (.cells d4.cells 29)) w3.heap.size d2 ∧ TR (w5.alloc (.cells d4.cells 29)) (one b) d2) := ⟨T23.out.1.below bb4, T23.out.2.keeps bb4⟩
    have T34 : Hid (TB (w5.alloc (.cells d4.cells 29)) w4.heap.size d3 ∧ TR (w5.alloc (.cells d4.cells 29)) (one b) d3) := ⟨T33.out.1.below bb4, T33.out.2.keeps bb4⟩
    have T44 : Hid (TB (w5.alloc (.cells d4.cells 29)) w5.heap.size d4 ∧ TR (w5.alloc (.cells d4.cells 29)) (setT (fun i => !rgF b b i)) d4) := ⟨TB.new w5 d4, v4.keeps nb4⟩
    have C4 : Hid (Below w.heap.size w (w5.alloc (.cells d4.cells 29))) := C3.out.trans (bb4.mono C3.out.size)
    clear P4 v4 b4 nb4 bb4 C3 T13 T23 T33
    unfold TD.val
    have nbw := below_new (w5.alloc (.cells d4.cells 29)) (.cells #[.int .u64 (0 : Int), .int .u64 (0 : Int), .int .u64 (0 : Int), .int .u64 (IntKind.u64.wrap ((2 : Int) ^ (b % 64)))] 26)
    have FF : Hid (FB w ((w5.alloc (.cells #[.int .i64 d4.op, .int .u64 (uv (d4.q 0)), .int .u64 (uv (d4.q 1)), .int .u64 (uv (d4.q 2)), .int .u64 (uv (d4.q 3)), .int .i64 d4.lo, .int .i64 d4.hi, .slice d4.A d4.n d4.c] 29)).alloc (.cells #[.int .u64 (0 : Int), .int .u64 (0 : Int), .int .u64 (0 : Int), .int .u64 (IntKind.u64.wrap ((2 : Int) ^ (b % 64)))] 26)) b w2.heap.size w3.heap.size w4.heap.size w5.heap.size (w5.heap.size + 1) d1 d2 d3 d4) := by
      refine ⟨T14.out.1.below nbw, T14.out.2.keeps nbw, T24.out.1.below nbw, T24.out.2.keeps nbw, T34.out.1.below nbw, T34.out.2.keeps nbw, T44.out.1.below nbw, T44.out.2.keeps nbw, ?_, C4.out.trans (nbw.mono C4.out.size)⟩
      have := CB.new (w5.alloc (.cells d4.cells 29)) (oneq b)
      rw [World.size_alloc] at this
      unfold cw at this
      rw [UU.out.1, UU.out.2.1, UU.out.2.2.1, UU.out.2.2.2] at this
      exact this
    clear nbw T14 T24 T34 T44 C4 ks kcv z0
    go_wp2_with fail
    generalize ((w5.alloc (.cells #[.int .i64 d4.op, .int .u64 (uv (d4.q 0)), .int .u64 (uv (d4.q 1)), .int .u64 (uv (d4.q 2)), .int .u64 (uv (d4.q 3)), .int .i64 d4.lo, .int .i64 d4.hi, .slice d4.A d4.n d4.c] 29)).alloc (.cells #[.int .u64 (0 : Int), .int .u64 (0 : Int), .int .u64 (0 : Int), .int .u64 (IntKind.u64.wrap ((2 : Int) ^ (b % 64)))] 26)) = wl at *
    have uvn := uv_not
    go_loopw [79] (fun v wr => ∃ i : Nat, i ≤ 4 ∧ v = .int .i64 (i : Nat) ∧ Hid (FB w wr b w2.heap.size w3.heap.size w4.heap.size w5.heap.size (w5.heap.size + 1) d1 d2 d3 d4)) (fun v _ => 4 - (intOf v).toNat)
    case atStart => exact ⟨0, Nat.zero_le _, rfl, FF⟩
    case round =>
      obtain ⟨i, hi, rfl, hW⟩ := hrel
      clear FF
      by_cases hil : i < 4
      · have qi : (i : Int) < 4 := by omega
        obtain ⟨c1, c2⟩ := hW.out.cells i hil
        go_wp2_with fail
        go_quiet (fail)
        have W2 := Lib.hid (hW.out.drewN nq)
        clear c1 c2 hW
        go_wp2_with fail
        go_roundw
        case rel => exact ⟨i + 1, by omega, by simp, W2⟩
        case measure => simp [intOf]; omega
      · have hin : i = 4 := by omega
        subst hin
        clear uvn q3
        obtain ⟨⟨x0, x1, x2, x3, x4, x5, x6, x7⟩, _⟩ := hW.out.t1.all
        have g0 := hW.out.cb.cell 0 (by omega); have g1 := hW.out.cb.cell 1 (by omega); have g2 := hW.out.cb.cell 2 (by omega); have g3 := hW.out.cb.cell 3 (by omega)
        have lt1 := hW.out.t1.lt
        have OC := Lib.hid (below_new wr (.cells #[.int .i64 2, .int .u64 (uv (oneq b 0)), .int .u64 (uv (oneq b 1)), .int .u64 (uv (oneq b 2)), .int .u64 (uv (oneq b 3)), .int .i64 0, .int .i64 0, .slice none 0 0] 29))
        have O1 : Hid (TB (wr.alloc (.cells #[.int .i64 2, .int .u64 (uv (oneq b 0)), .int .u64 (uv (oneq b 1)), .int .u64 (uv (oneq b 2)), .int .u64 (uv (oneq b 3)), .int .i64 0, .int .i64 0, .slice none 0 0] 29)) wr.heap.size ⟨2, oneq b, 0, 0, none, 0, 0⟩) := TB.new wr ⟨2, oneq b, 0, 0, none, 0, 0⟩
        have G1 := Lib.hid (hW.out.below OC.out)
        have D := Lib.hid fun (W : World) (d : TD) (h1 : TR W (one b) d) => same_any (one b) (one b) d ⟨2, oneq b, 0, 0, none, 0, 0⟩ W h1 (TV.leaf W (fun _ => True) 2 (rgF b b) 0 0 (oneq b) none 0 (oneq_is b HB.out)).tr
        rw [sameT_refl] at D
        unfold TD.val at D
        go_wp2_with fail
        refine (D.out _ _ G1.out.r1).mono ?_
        rintro e w7 ⟨rfl, b7⟩
        have G7 := Lib.hid (G1.out.below b7); have O7 := Lib.hid (O1.out.below b7)
        clear hW x0 x1 x2 x3 x4 x5 x6 x7 g0 g1 g2 g3 lt1 OC O1 G1 b7
        obtain ⟨⟨x0, x1, x2, x3, x4, x5, x6, x7⟩, _⟩ := G7.out.t2.all
        obtain ⟨⟨y0, y1, y2, y3, y4, y5, y6, y7⟩, _⟩ := O7.out.all
        go_wp2_with fail
        refine (D.out _ _ G7.out.r2).mono ?_
        rintro e w8 ⟨rfl, b8⟩
        have G8 := Lib.hid (G7.out.below b8); have O8 := Lib.hid (O7.out.below b8)
        clear x0 x1 x2 x3 x4 x5 x6 x7 y0 y1 y2 y3 y4 y5 y6 y7 G7 O7 b8
        obtain ⟨⟨x0, x1, x2, x3, x4, x5, x6, x7⟩, _⟩ := G8.out.t3.all
        obtain ⟨⟨y0, y1, y2, y3, y4, y5, y6, y7⟩, _⟩ := O8.out.all
        go_wp2_with fail
        refine (D.out _ _ G8.out.r3).mono ?_
        rintro e w9 ⟨rfl, b9⟩
        have BE := Lib.hid (G8.out.below b9).be
        clear x0 x1 x2 x3 x4 x5 x6 x7 y0 y1 y2 y3 y4 y5 y6 y7 G8 O8 b9
        go_wp2
        go_ret
        exact ⟨rfl, BE.out⟩
theorem byte_walk (b : Nat) (big : Bool) (w : World) (hb : b < 256) : Calls Try.prog 7 #[.int .u8 (b : Nat), .bool big] w (Tells w (.bool true)) := by
  have e : 16 * (b / 16) + b % 16 = b := by omega
  rcases (show b / 64 = 0 ∨ b / 64 = 1 ∨ b / 64 = 2 ∨ b / 64 = 3 by omega) with h | h | h | h
  · have := byte_walk0 (b / 16) (b % 16) big w (by omega) (by omega) (by omega); rw [e] at this; exact this
  · have := byte_walk1 (b / 16) (b % 16) big w (by omega) (by omega) (by omega); rw [e] at this; exact this
  · have := byte_walk2 (b / 16) (b % 16) big w (by omega) (by omega) (by omega); rw [e] at this; exact this
  · have := byte_walk3 (b / 16) (b % 16) big w (by omega) (by omega) (by omega); rw [e] at this; exact this
end Go.Proofs.Ytnaecagmcpndhaa
